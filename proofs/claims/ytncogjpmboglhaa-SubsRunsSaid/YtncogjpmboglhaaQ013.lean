/-
  Rows of one's own, while memory grows and one cell is written. No program's function in it.
  The two loops of Learn that look for a place. Condition: at most a million elements.
  The two loops of Learn that look for a place. Condition: at most a million elements.
  The region of Learn that puts an ID into its place. Condition: at most 900 of them.
  The region of Learn that puts an advertisement into its place. Condition: at most 900 of them.
  Learn of broadsideref9: a broker with one advertisement more, if it was not seen. Condition: at most 900 of each.
  slices.Clone of rows of six kinds: the same in new memory. Condition: at most 900 elements.
  The region of Forget that takes an advertisement out. Condition: at most 900 of them.
  Forget of broadsideref9: a broker without one advertisement and its entries, if it came from there. Condition: at most 900 of each.
  CopyBroker of broadsidekeep: the same in new memory. Condition: at most 900 of each.
  copyAdvert of package adverts: the same in new memory. Condition: at most 900 constraints.
  A broker's rows lie in no block that holds a broker: what a store into such a block leaves. No program's function in it.
  A broker stored whole, a broker loaded; a call of three arguments in a region. No condition.
  Stores into elements of rows of one's own; a broker while Copy fills it. No program's function in it.
  slices.Index and slices.Contains of IDs, adverts.Seen. Condition: rows no longer than a machine holds.
  The document's own Holds and Implies (package broadsideref1). No condition.
  The document's own Implies (package broadsideref1). No condition.
  A region that draws its order by marks, as in RgM, whose last operation stores and writes no slot. No condition beyond what the theorem states.
  A region that draws its order, in which a variable is made, one value is come by (by a call that may make memory), and the value is stored into the variable; all else is known ahead. No condition beyond what the theorem states.
  A region that draws its order, in which a variable is made and one value is stored into it; of each other value something is known till its last use, which holds on as memory grows. No condition beyond what the theorem states.
  slices.Sort, slices.Compact, slices.BinarySearch of numbers, as the library's contracts lay them at this program. No condition beyond what each states.
  slices.Sort and slices.Compact of a row of numbers of one's own: rising, each once. Condition: at most 900 of them.
-/
import Derived.Test.YtncogjpmboglhaaQ006
import Derived.Test.YtncogjpmboglhaaQ011
import Derived.Test.YtncogjpmboglhaaQ007
import Derived.Lib.QuietBelow
import Derived.BigQuiet
import Derived.Deep.RegionLaw
import Derived.Laws.Cover3
import Derived.Test.YtncogjpmboglhaaQ005
import Derived.Test.YtncogjpmboglhaaQ008
import Derived.Test.YtncogjpmboglhaaQ012
import Derived.Lib.Strings
import Derived.Lib.Hide
import Derived.Test.YtncogjpmboglhaaQ000
import Derived.Shelf.Slices.In.SortNone
import Derived.Shelf.Sort.Plain
import Derived.Shelf.Slices.CompactI
import Derived.Shelf.Slices.SearchI
import Derived.Test.YtncogjpmboglhaaProg
namespace Go.Proofs.Ytncogjpmboglhaa.Bk
open Go.RowKit Go.Proofs.Ytncogjpmboglhaa Go.Proofs.Ytncogjpmboglhaa.Rw

theorem own_fewer {α : Type} {E : Ek α} {W : World} {B C : Nat} {v : Value} {l : List α} (h : Own E W B v l) (hc : C ≤ B) : Own E W C v l := by
  refine ⟨h.1, ?_⟩
  rcases h.2 with h2 | ⟨g, cap, cur, h1, h2, h3⟩
  · exact Or.inl h2
  · exact Or.inr ⟨g, cap, cur, h1, Nat.le_trans hc h2, h3⟩
theorem own_on {α : Type} {E : Ek α} {W W' : World} {B : Nat} {v : Value} {l : List α} (h : Own E W B v l) (hb : Below W.heap.size W W') : Own E W' B v l :=
  h.kept (w' := W') (row := none) ⟨hb.os, hb.tape, hb.output, hb.size, fun k hk _ => hb.block k hk⟩ (by cases v.ownBlock <;> simp)
theorem own_cell {α : Type} {E : Ek α} {W : World} {B : Nat} {v : Value} {l : List α} (h : Own E W B v l) (b k : Nat) (x : Value) (hb : b < B) : Own E (W.setCell ⟨b, k, none⟩ x) B v l :=
  h.kept (w' := W.setCell ⟨b, k, none⟩ x) (row := some b) ⟨rfl, rfl, rfl, by simp [World.setCell], fun j _ hne => RowKit.Below.heap_setCell _ _ _ _ (fun e => hne (by rw [e]))⟩ (by
    cases hv : v.ownBlock with
    | none => exact Or.inl rfl
    | some j =>
      refine Or.inr fun e => ?_
      injection e with e
      have h1 := (h.lt j hv).1
      omega)
theorem box_set {W : World} {rb k : Nat} {cs : Array Value} {t : TypeId} (h : Box W rb cs t) (x : Value) : Box (W.setCell ⟨rb, k, none⟩ x) rb (cs.setIfInBounds k x) t := heap_setCell_same W rb k cs t x h
end Go.Proofs.Ytncogjpmboglhaa.Bk

namespace Go.Proofs.Ytncogjpmboglhaa.Bk
open Go.RowKit Go.Sort Go.Proofs.Ytncogjpmboglhaa Go.Proofs.Ytncogjpmboglhaa.Rw Go.Proofs.Ytncogjpmboglhaa.Nm Go.Proofs.Ytncogjpmboglhaa.Pr

theorem place_is (l : List Id) (x : Id) (k : Nat) (hall : ∀ (j : Nat) (y : Id), j < k → l[j]? = some y → lessI y x = true) (hend : k = l.length ∨ ∃ y, l[k]? = some y ∧ lessI y x = false) : placeI l x = k := by
  unfold placeI
  induction l generalizing k with
  | nil =>
    rcases hend with h | ⟨y, h, _⟩
    · rw [h]; rfl
    · simp at h
  | cons a l ih =>
    cases k with
    | zero =>
      rcases hend with h | ⟨y, h, h2⟩
      · simp at h
      · obtain rfl : a = y := by simpa using h
        rw [List.takeWhile_cons, h2]
        rfl
    | succ k =>
      have h0 := hall 0 a (by omega) rfl
      rw [List.takeWhile_cons, h0]
      simp only [if_true, List.length_cons]
      rw [ih k (fun j y hj hy => hall (j + 1) y (by omega) (by simpa using hy)) (by
        rcases hend with h | ⟨y, h, h2⟩
        · exact Or.inl (by simpa using h)
        · exact Or.inr ⟨y, by simpa using h, h2⟩)]
end Go.Proofs.Ytncogjpmboglhaa.Bk

namespace Go.Proofs.Ytncogjpmboglhaa.Bk
open Go.RowKit Go.Sort Go.Proofs.Ytncogjpmboglhaa Go.Proofs.Ytncogjpmboglhaa.Rw Go.Proofs.Ytncogjpmboglhaa.Nm Go.Proofs.Ytncogjpmboglhaa.Pr

end Go.Proofs.Ytncogjpmboglhaa.Bk

namespace Go.Proofs.Ytncogjpmboglhaa.Bk
open Go.RowKit Go.Proofs.Ytncogjpmboglhaa Go.Proofs.Ytncogjpmboglhaa.Rw Go.Proofs.Ytncogjpmboglhaa.Nm Go.Proofs.Ytncogjpmboglhaa.Pr

end Go.Proofs.Ytncogjpmboglhaa.Bk

namespace Go.Proofs.Ytncogjpmboglhaa.Bk
open Go.RowKit Go.Proofs.Ytncogjpmboglhaa Go.Proofs.Ytncogjpmboglhaa.Rw Go.Proofs.Ytncogjpmboglhaa.Nm Go.Proofs.Ytncogjpmboglhaa.Pr

end Go.Proofs.Ytncogjpmboglhaa.Bk

namespace Go.Proofs.Ytncogjpmboglhaa.Bk
open Go.RowKit Go.Sort Go.Proofs.Ytncogjpmboglhaa Go.Proofs.Ytncogjpmboglhaa.Rw Go.Proofs.Ytncogjpmboglhaa.Nm Go.Proofs.Ytncogjpmboglhaa.Pr

def insAt {α : Type} (l : List α) (k : Nat) (x : α) : List α := l.take k ++ [x] ++ l.drop k
def learnB (b : Br) (a : Ad) : Br × Bool := if a.id ∈ b.seen then (b, false) else ({ b with seen := insAt b.seen (placeI b.seen a.id) a.id, adv := insAt b.adv (placeI (b.adv.map Ad.id) a.id) a }, true)
abbrev setB (W : World) (b : Nat) (a0 a1 a2 a3 a4 a5 : Value) : World := (((((W.setCell ⟨b, 0, none⟩ a0).setCell ⟨b, 1, none⟩ a1).setCell ⟨b, 2, none⟩ a2).setCell ⟨b, 3, none⟩ a3).setCell ⟨b, 4, none⟩ a4).setCell ⟨b, 5, none⟩ a5
theorem setB_box {W : World} {b : Nat} {t : TypeId} {z0 z1 z2 z3 z4 z5 : Value} (h : Box W b #[z0, z1, z2, z3, z4, z5] t) (a0 a1 a2 a3 a4 a5 : Value) : Box (setB W b a0 a1 a2 a3 a4 a5) b #[a0, a1, a2, a3, a4, a5] t := by
  have h2 := box_set (k := 5) (box_set (k := 4) (box_set (k := 3) (box_set (k := 2) (box_set (k := 1) (box_set (k := 0) h a0) a1) a2) a3) a4) a5
  simp only [List.setIfInBounds_toArray, List.set_cons_zero, List.set_cons_succ] at h2
  exact h2
theorem setB_below {w W : World} {B b : Nat} (h : Below B w W) (hb : B ≤ b) (a0 a1 a2 a3 a4 a5 : Value) : Below B w (setB W b a0 a1 a2 a3 a4 a5) :=
  (((((h.setCell hb _).setCell hb _).setCell hb _).setCell hb _).setCell hb _).setCell hb _
theorem setB_ownA {α : Type} {E : Ek α} {W : World} {B : Nat} {v : Value} {l : List α} (h : Own E W B v l) (b : Nat) (hb : b < B) (a0 a1 a2 a3 a4 a5 : Value) : Own E (setB W b a0 a1 a2 a3 a4 a5) B v l :=
  own_cell (own_cell (own_cell (own_cell (own_cell (own_cell h b 0 a0 hb) b 1 a1 hb) b 2 a2 hb) b 3 a3 hb) b 4 a4 hb) b 5 a5 hb
theorem three_new (w : World) (c d e : Array Value) (r s t : TypeId) : Below w.heap.size w (((w.alloc (.cells c r)).alloc (.cells d s)).alloc (.cells e t)) ∧ Box (((w.alloc (.cells c r)).alloc (.cells d s)).alloc (.cells e t)) w.heap.size c r ∧ Box (((w.alloc (.cells c r)).alloc (.cells d s)).alloc (.cells e t)) (w.heap.size + 1) d s ∧ Box (((w.alloc (.cells c r)).alloc (.cells d s)).alloc (.cells e t)) (w.heap.size + 1 + 1) e t := by
  refine ⟨(((Below.refl _ _).alloc (Nat.le_refl _) _).alloc (by simp) _).alloc (by simp; omega) _, ((box_new w c r).more _).more _, ?_, ?_⟩
  · have h := (box_new (w.alloc (.cells c r)) d s).more (.cells e t)
    simpa using h
  · have h := box_new ((w.alloc (.cells c r)).alloc (.cells d s)) e t
    simpa using h
theorem place_le (l : List Id) (x : Id) : placeI l x ≤ l.length := by
  unfold placeI
  exact (List.takeWhile_sublist _).length_le
end Go.Proofs.Ytncogjpmboglhaa.Bk

namespace Go.Proofs.Ytncogjpmboglhaa.Av
open Go.RowKit Go.Proofs.Ytncogjpmboglhaa Go.Proofs.Ytncogjpmboglhaa.Rw Go.Proofs.Ytncogjpmboglhaa.Nm Go.Proofs.Ytncogjpmboglhaa.Pr Go.Proofs.Ytncogjpmboglhaa.Bk Go.Proofs.Ytncogjpmboglhaa.Rg

theorem eqnilI (a : Option Addr) (n c : Nat) (w : World) : (binOp .eql 28 (.slice a n c) (.slice none 0 0)).run Try.prog w = .ok (.bool a.isNone) w := by
  simp [go_sem, binOp, run_equal_slice_nil (P := Try.prog) w 28 3 a n c Try.underlying28]
set_option maxRecDepth 100000 in
set_option maxHeartbeats 4000000 in
theorem cloneI_any (v : Sl) (l : List Int) (w : World) (hv : Row EI w (slv v) l) (hl : l.length ≤ 900) :
    Calls Try.prog 26 #[slv v] w fun e w' => (∃ v' : Sl, e = .returned (slv v') ∧ Own EI w' w.heap.size (slv v') l) ∧ Below w.heap.size w w' := by
  obtain ⟨vo, vn, vc⟩ := v
  rcases hv with ⟨rfl, hv⟩ | ⟨a, cap, hv, h1, h2, h3⟩
  · obtain ⟨rfl, rfl, rfl⟩ : vo = none ∧ vn = 0 ∧ vc = 0 := by simpa using hv
    clear hv hl
    have q : ∀ w', (binOp .eql 28 (.slice none 0 0) (.slice none 0 0)).run Try.prog w' = .ok (.bool true) w' := fun w' => eqnilI none 0 0 w'
    go_enter Try.func26, Try.ntmps26
    go_wp2
    go_ret
    exact ⟨⟨(none, 0, 0), rfl, own_nil _ _⟩, Below.refl _ _⟩
  · obtain ⟨rfl, rfl, rfl⟩ : vo = some a ∧ vn = l.length ∧ vc = cap := by simpa using hv
    have hx : Row EI w (.slice (some a) l.length vc) l := Or.inr ⟨a, vc, rfl, h1, h2, h3⟩
    have n0 := newB w (.cells #[] 3)
    obtain ⟨q0, w0, r0, o0, g0⟩ := app_fresh Nm.okI w.heap.size (box_new w #[] 3) (Nat.le_refl _) (hx.on n0) (by omega) 28
    obtain ⟨v1, v3, hv1⟩ := (Row.of_own o0).len
    obtain ⟨n, hn⟩ : ∃ n, n = l.length := ⟨_, rfl⟩
    have Q := Lib.hid (show (∃ v' : Sl, Ending.returned q0 = .returned (slv v') ∧ Own EI w0 w.heap.size (slv v') l) ∧ Below w.heap.size w w0 from ⟨⟨(v1, l.length, v3), by rw [hv1], by subst hv1; exact o0⟩, n0.trans (g0.mono n0.size)⟩)
    rw [← hn] at r0 ⊢
    clear hv h1 h2 h3 hx o0 g0 n0 hv1 hn hl
    have q : ∀ w', (binOp .eql 28 (.slice (some a) n vc) (.slice none 0 0)).run Try.prog w' = .ok (.bool false) w' := fun w' => eqnilI (some a) n vc w'
    have r0 : (Builtin.append_ #[28, 28] 28 #[.slice (some ⟨w.heap.size, 0, none⟩) 0 0, .slice (some a) n vc]).run Try.prog (w.alloc (.cells #[] 3)) = .ok q0 w0 := r0
    go_enter Try.func26, Try.ntmps26
    go_wp2_with (first | (at_builtin; refine wpList_append_run rfl _ _ 28 rfl rfl rfl r0 ?_) | fail)
    go_ret
    exact Q.out
theorem eqnilJ (a : Option Addr) (n c : Nat) (w : World) : (binOp .eql 30 (.slice a n c) (.slice none 0 0)).run Try.prog w = .ok (.bool a.isNone) w := by
  simp [go_sem, binOp, run_equal_slice_nil (P := Try.prog) w 30 23 a n c Try.underlying30]
set_option maxRecDepth 100000 in
set_option maxHeartbeats 4000000 in
theorem cloneJ_any (v : Sl) (l : List XID) (w : World) (hv : Row EJ w (slv v) l) (hl : l.length ≤ 900) :
    Calls Try.prog 44 #[slv v] w fun e w' => (∃ v' : Sl, e = .returned (slv v') ∧ Own EJ w' w.heap.size (slv v') l) ∧ Below w.heap.size w w' := by
  obtain ⟨vo, vn, vc⟩ := v
  rcases hv with ⟨rfl, hv⟩ | ⟨a, cap, hv, h1, h2, h3⟩
  · obtain ⟨rfl, rfl, rfl⟩ : vo = none ∧ vn = 0 ∧ vc = 0 := by simpa using hv
    clear hv hl
    have q : ∀ w', (binOp .eql 30 (.slice none 0 0) (.slice none 0 0)).run Try.prog w' = .ok (.bool true) w' := fun w' => eqnilJ none 0 0 w'
    go_enter Try.func44, Try.ntmps44
    go_wp2
    go_ret
    exact ⟨⟨(none, 0, 0), rfl, own_nil _ _⟩, Below.refl _ _⟩
  · obtain ⟨rfl, rfl, rfl⟩ : vo = some a ∧ vn = l.length ∧ vc = cap := by simpa using hv
    have hx : Row EJ w (.slice (some a) l.length vc) l := Or.inr ⟨a, vc, rfl, h1, h2, h3⟩
    have n0 := newB w (.cells #[] 23)
    obtain ⟨q0, w0, r0, o0, g0⟩ := app_fresh okJ w.heap.size (box_new w #[] 23) (Nat.le_refl _) (hx.on n0) (by omega) 30
    obtain ⟨v1, v3, hv1⟩ := (Row.of_own o0).len
    obtain ⟨n, hn⟩ : ∃ n, n = l.length := ⟨_, rfl⟩
    have Q := Lib.hid (show (∃ v' : Sl, Ending.returned q0 = .returned (slv v') ∧ Own EJ w0 w.heap.size (slv v') l) ∧ Below w.heap.size w w0 from ⟨⟨(v1, l.length, v3), by rw [hv1], by subst hv1; exact o0⟩, n0.trans (g0.mono n0.size)⟩)
    rw [← hn] at r0 ⊢
    clear hv h1 h2 h3 hx o0 g0 n0 hv1 hn hl
    have q : ∀ w', (binOp .eql 30 (.slice (some a) n vc) (.slice none 0 0)).run Try.prog w' = .ok (.bool false) w' := fun w' => eqnilJ (some a) n vc w'
    have r0 : (Builtin.append_ #[30, 30] 30 #[.slice (some ⟨w.heap.size, 0, none⟩) 0 0, .slice (some a) n vc]).run Try.prog (w.alloc (.cells #[] 23)) = .ok q0 w0 := r0
    go_enter Try.func44, Try.ntmps44
    go_wp2_with (first | (at_builtin; refine wpList_append_run rfl _ _ 30 rfl rfl rfl r0 ?_) | fail)
    go_ret
    exact Q.out
theorem eqnilD (a : Option Addr) (n c : Nat) (w : World) : (binOp .eql 29 (.slice a n c) (.slice none 0 0)).run Try.prog w = .ok (.bool a.isNone) w := by
  simp [go_sem, binOp, run_equal_slice_nil (P := Try.prog) w 29 39 a n c Try.underlying29]
set_option maxRecDepth 100000 in
set_option maxHeartbeats 4000000 in
theorem cloneD_any (v : Sl) (l : List XAd) (w : World) (hv : Row ED w (slv v) l) (hl : l.length ≤ 900) :
    Calls Try.prog 45 #[slv v] w fun e w' => (∃ v' : Sl, e = .returned (slv v') ∧ Own ED w' w.heap.size (slv v') l) ∧ Below w.heap.size w w' := by
  obtain ⟨vo, vn, vc⟩ := v
  rcases hv with ⟨rfl, hv⟩ | ⟨a, cap, hv, h1, h2, h3⟩
  · obtain ⟨rfl, rfl, rfl⟩ : vo = none ∧ vn = 0 ∧ vc = 0 := by simpa using hv
    clear hv hl
    have q : ∀ w', (binOp .eql 29 (.slice none 0 0) (.slice none 0 0)).run Try.prog w' = .ok (.bool true) w' := fun w' => eqnilD none 0 0 w'
    go_enter Try.func45, Try.ntmps45
    go_wp2
    go_ret
    exact ⟨⟨(none, 0, 0), rfl, own_nil _ _⟩, Below.refl _ _⟩
  · obtain ⟨rfl, rfl, rfl⟩ : vo = some a ∧ vn = l.length ∧ vc = cap := by simpa using hv
    have hx : Row ED w (.slice (some a) l.length vc) l := Or.inr ⟨a, vc, rfl, h1, h2, h3⟩
    have n0 := newB w (.cells #[] 39)
    obtain ⟨q0, w0, r0, o0, g0⟩ := app_fresh okD w.heap.size (box_new w #[] 39) (Nat.le_refl _) (hx.on n0) (by omega) 29
    obtain ⟨v1, v3, hv1⟩ := (Row.of_own o0).len
    obtain ⟨n, hn⟩ : ∃ n, n = l.length := ⟨_, rfl⟩
    have Q := Lib.hid (show (∃ v' : Sl, Ending.returned q0 = .returned (slv v') ∧ Own ED w0 w.heap.size (slv v') l) ∧ Below w.heap.size w w0 from ⟨⟨(v1, l.length, v3), by rw [hv1], by subst hv1; exact o0⟩, n0.trans (g0.mono n0.size)⟩)
    rw [← hn] at r0 ⊢
    clear hv h1 h2 h3 hx o0 g0 n0 hv1 hn hl
    have q : ∀ w', (binOp .eql 29 (.slice (some a) n vc) (.slice none 0 0)).run Try.prog w' = .ok (.bool false) w' := fun w' => eqnilD (some a) n vc w'
    have r0 : (Builtin.append_ #[29, 29] 29 #[.slice (some ⟨w.heap.size, 0, none⟩) 0 0, .slice (some a) n vc]).run Try.prog (w.alloc (.cells #[] 39)) = .ok q0 w0 := r0
    go_enter Try.func45, Try.ntmps45
    go_wp2_with (first | (at_builtin; refine wpList_append_run rfl _ _ 29 rfl rfl rfl r0 ?_) | fail)
    go_ret
    exact Q.out
theorem eqnilN (a : Option Addr) (n c : Nat) (w : World) : (binOp .eql 31 (.slice a n c) (.slice none 0 0)).run Try.prog w = .ok (.bool a.isNone) w := by
  simp [go_sem, binOp, run_equal_slice_nil (P := Try.prog) w 31 42 a n c Try.underlying31]
set_option maxRecDepth 100000 in
set_option maxHeartbeats 4000000 in
theorem cloneN_any (v : Sl) (l : List XEn) (w : World) (hv : Row EN w (slv v) l) (hl : l.length ≤ 900) :
    Calls Try.prog 46 #[slv v] w fun e w' => (∃ v' : Sl, e = .returned (slv v') ∧ Own EN w' w.heap.size (slv v') l) ∧ Below w.heap.size w w' := by
  obtain ⟨vo, vn, vc⟩ := v
  rcases hv with ⟨rfl, hv⟩ | ⟨a, cap, hv, h1, h2, h3⟩
  · obtain ⟨rfl, rfl, rfl⟩ : vo = none ∧ vn = 0 ∧ vc = 0 := by simpa using hv
    clear hv hl
    have q : ∀ w', (binOp .eql 31 (.slice none 0 0) (.slice none 0 0)).run Try.prog w' = .ok (.bool true) w' := fun w' => eqnilN none 0 0 w'
    go_enter Try.func46, Try.ntmps46
    go_wp2
    go_ret
    exact ⟨⟨(none, 0, 0), rfl, own_nil _ _⟩, Below.refl _ _⟩
  · obtain ⟨rfl, rfl, rfl⟩ : vo = some a ∧ vn = l.length ∧ vc = cap := by simpa using hv
    have hx : Row EN w (.slice (some a) l.length vc) l := Or.inr ⟨a, vc, rfl, h1, h2, h3⟩
    have n0 := newB w (.cells #[] 42)
    obtain ⟨q0, w0, r0, o0, g0⟩ := app_fresh okN w.heap.size (box_new w #[] 42) (Nat.le_refl _) (hx.on n0) (by omega) 31
    obtain ⟨v1, v3, hv1⟩ := (Row.of_own o0).len
    obtain ⟨n, hn⟩ : ∃ n, n = l.length := ⟨_, rfl⟩
    have Q := Lib.hid (show (∃ v' : Sl, Ending.returned q0 = .returned (slv v') ∧ Own EN w0 w.heap.size (slv v') l) ∧ Below w.heap.size w w0 from ⟨⟨(v1, l.length, v3), by rw [hv1], by subst hv1; exact o0⟩, n0.trans (g0.mono n0.size)⟩)
    rw [← hn] at r0 ⊢
    clear hv h1 h2 h3 hx o0 g0 n0 hv1 hn hl
    have q : ∀ w', (binOp .eql 31 (.slice (some a) n vc) (.slice none 0 0)).run Try.prog w' = .ok (.bool false) w' := fun w' => eqnilN (some a) n vc w'
    have r0 : (Builtin.append_ #[31, 31] 31 #[.slice (some ⟨w.heap.size, 0, none⟩) 0 0, .slice (some a) n vc]).run Try.prog (w.alloc (.cells #[] 42)) = .ok q0 w0 := r0
    go_enter Try.func46, Try.ntmps46
    go_wp2_with (first | (at_builtin; refine wpList_append_run rfl _ _ 31 rfl rfl rfl r0 ?_) | fail)
    go_ret
    exact Q.out
theorem eqnilW (a : Option Addr) (n c : Nat) (w : World) : (binOp .eql 32 (.slice a n c) (.slice none 0 0)).run Try.prog w = .ok (.bool a.isNone) w := by
  simp [go_sem, binOp, run_equal_slice_nil (P := Try.prog) w 32 90 a n c Try.underlying32]
set_option maxRecDepth 100000 in
set_option maxHeartbeats 4000000 in
theorem cloneW_any (v : Sl) (l : List XOw) (w : World) (hv : Row EW w (slv v) l) (hl : l.length ≤ 900) :
    Calls Try.prog 47 #[slv v] w fun e w' => (∃ v' : Sl, e = .returned (slv v') ∧ Own EW w' w.heap.size (slv v') l) ∧ Below w.heap.size w w' := by
  obtain ⟨vo, vn, vc⟩ := v
  rcases hv with ⟨rfl, hv⟩ | ⟨a, cap, hv, h1, h2, h3⟩
  · obtain ⟨rfl, rfl, rfl⟩ : vo = none ∧ vn = 0 ∧ vc = 0 := by simpa using hv
    clear hv hl
    have q : ∀ w', (binOp .eql 32 (.slice none 0 0) (.slice none 0 0)).run Try.prog w' = .ok (.bool true) w' := fun w' => eqnilW none 0 0 w'
    go_enter Try.func47, Try.ntmps47
    go_wp2
    go_ret
    exact ⟨⟨(none, 0, 0), rfl, own_nil _ _⟩, Below.refl _ _⟩
  · obtain ⟨rfl, rfl, rfl⟩ : vo = some a ∧ vn = l.length ∧ vc = cap := by simpa using hv
    have hx : Row EW w (.slice (some a) l.length vc) l := Or.inr ⟨a, vc, rfl, h1, h2, h3⟩
    have n0 := newB w (.cells #[] 90)
    obtain ⟨q0, w0, r0, o0, g0⟩ := app_fresh okW w.heap.size (box_new w #[] 90) (Nat.le_refl _) (hx.on n0) (by omega) 32
    obtain ⟨v1, v3, hv1⟩ := (Row.of_own o0).len
    obtain ⟨n, hn⟩ : ∃ n, n = l.length := ⟨_, rfl⟩
    have Q := Lib.hid (show (∃ v' : Sl, Ending.returned q0 = .returned (slv v') ∧ Own EW w0 w.heap.size (slv v') l) ∧ Below w.heap.size w w0 from ⟨⟨(v1, l.length, v3), by rw [hv1], by subst hv1; exact o0⟩, n0.trans (g0.mono n0.size)⟩)
    rw [← hn] at r0 ⊢
    clear hv h1 h2 h3 hx o0 g0 n0 hv1 hn hl
    have q : ∀ w', (binOp .eql 32 (.slice (some a) n vc) (.slice none 0 0)).run Try.prog w' = .ok (.bool false) w' := fun w' => eqnilW (some a) n vc w'
    have r0 : (Builtin.append_ #[32, 32] 32 #[.slice (some ⟨w.heap.size, 0, none⟩) 0 0, .slice (some a) n vc]).run Try.prog (w.alloc (.cells #[] 90)) = .ok q0 w0 := r0
    go_enter Try.func47, Try.ntmps47
    go_wp2_with (first | (at_builtin; refine wpList_append_run rfl _ _ 32 rfl rfl rfl r0 ?_) | fail)
    go_ret
    exact Q.out
theorem eqnilC (a : Option Addr) (n c : Nat) (w : World) : (binOp .eql 24 (.slice a n c) (.slice none 0 0)).run Try.prog w = .ok (.bool a.isNone) w := by
  simp [go_sem, binOp, run_equal_slice_nil (P := Try.prog) w 24 26 a n c Try.underlying24]
set_option maxRecDepth 100000 in
set_option maxHeartbeats 4000000 in
theorem cloneC_any (v : Sl) (l : List C5) (w : World) (hv : Row EC w (slv v) l) (hl : l.length ≤ 900) :
    Calls Try.prog 48 #[slv v] w fun e w' => (∃ v' : Sl, e = .returned (slv v') ∧ Own EC w' w.heap.size (slv v') l) ∧ Below w.heap.size w w' := by
  obtain ⟨vo, vn, vc⟩ := v
  rcases hv with ⟨rfl, hv⟩ | ⟨a, cap, hv, h1, h2, h3⟩
  · obtain ⟨rfl, rfl, rfl⟩ : vo = none ∧ vn = 0 ∧ vc = 0 := by simpa using hv
    clear hv hl
    have q : ∀ w', (binOp .eql 24 (.slice none 0 0) (.slice none 0 0)).run Try.prog w' = .ok (.bool true) w' := fun w' => eqnilC none 0 0 w'
    go_enter Try.func48, Try.ntmps48
    go_wp2
    go_ret
    exact ⟨⟨(none, 0, 0), rfl, own_nil _ _⟩, Below.refl _ _⟩
  · obtain ⟨rfl, rfl, rfl⟩ : vo = some a ∧ vn = l.length ∧ vc = cap := by simpa using hv
    have hx : Row EC w (.slice (some a) l.length vc) l := Or.inr ⟨a, vc, rfl, h1, h2, h3⟩
    have n0 := newB w (.cells #[] 26)
    obtain ⟨q0, w0, r0, o0, g0⟩ := app_fresh okC w.heap.size (box_new w #[] 26) (Nat.le_refl _) (hx.on n0) (by omega) 24
    obtain ⟨v1, v3, hv1⟩ := (Row.of_own o0).len
    obtain ⟨n, hn⟩ : ∃ n, n = l.length := ⟨_, rfl⟩
    have Q := Lib.hid (show (∃ v' : Sl, Ending.returned q0 = .returned (slv v') ∧ Own EC w0 w.heap.size (slv v') l) ∧ Below w.heap.size w w0 from ⟨⟨(v1, l.length, v3), by rw [hv1], by subst hv1; exact o0⟩, n0.trans (g0.mono n0.size)⟩)
    rw [← hn] at r0 ⊢
    clear hv h1 h2 h3 hx o0 g0 n0 hv1 hn hl
    have q : ∀ w', (binOp .eql 24 (.slice (some a) n vc) (.slice none 0 0)).run Try.prog w' = .ok (.bool false) w' := fun w' => eqnilC (some a) n vc w'
    have r0 : (Builtin.append_ #[24, 24] 24 #[.slice (some ⟨w.heap.size, 0, none⟩) 0 0, .slice (some a) n vc]).run Try.prog (w.alloc (.cells #[] 26)) = .ok q0 w0 := r0
    go_enter Try.func48, Try.ntmps48
    go_wp2_with (first | (at_builtin; refine wpList_append_run rfl _ _ 24 rfl rfl rfl r0 ?_) | fail)
    go_ret
    exact Q.out
end Go.Proofs.Ytncogjpmboglhaa.Av

namespace Go.Proofs.Ytncogjpmboglhaa.Bk
open Go.RowKit Go.Proofs.Ytncogjpmboglhaa Go.Proofs.Ytncogjpmboglhaa.Rw Go.Proofs.Ytncogjpmboglhaa.Nm Go.Proofs.Ytncogjpmboglhaa.Pr

end Go.Proofs.Ytncogjpmboglhaa.Bk

namespace Go.Proofs.Ytncogjpmboglhaa.Bk
open Go.RowKit Go.Sort Go.Proofs.Ytncogjpmboglhaa Go.Proofs.Ytncogjpmboglhaa.Rw Go.Proofs.Ytncogjpmboglhaa.Nm Go.Proofs.Ytncogjpmboglhaa.Pr

def cutAt {α : Type} (l : List α) (k : Nat) : List α := l.take k ++ l.drop (k + 1)
theorem neId (a b c d : Int) (r : Bool) (h : (!(a == c && b == d)) = r) (w : World) : (binOp .neq 23 (.agg #[.int .i64 a, .int .i64 b]) (.agg #[.int .i64 c, .int .i64 d])).run Try.prog w = .ok (.bool r) w := by
  have st := stoodId
  subst h
  by_cases h1 : a = c <;> by_cases h2 : b = d <;> simp [go_sem, Try.underlying23, Try.underlying3, st, h1, h2]
end Go.Proofs.Ytncogjpmboglhaa.Bk

namespace Go.Proofs.Ytncogjpmboglhaa.Bk
open Go.RowKit Go.Sort Go.Proofs.Ytncogjpmboglhaa Go.Proofs.Ytncogjpmboglhaa.Rw Go.Proofs.Ytncogjpmboglhaa.Nm Go.Proofs.Ytncogjpmboglhaa.Pr

/-- Each of a broker's rows is short. -/
structure Few (b : Br) : Prop where
  near : b.near.length ≤ 900
  adv : b.adv.length ≤ 900
  seen : b.seen.length ≤ 900
  ent : b.ent.length ≤ 900
  own : b.own.length ≤ 900
end Go.Proofs.Ytncogjpmboglhaa.Bk

namespace Go.Proofs.Ytncogjpmboglhaa.Av
open Go.RowKit Go.Sort Go.Proofs.Ytncogjpmboglhaa Go.Proofs.Ytncogjpmboglhaa.Rw Go.Proofs.Ytncogjpmboglhaa.Nm Go.Proofs.Ytncogjpmboglhaa.Pr Go.Proofs.Ytncogjpmboglhaa.Bk

/-- Four stores of an advertisement. -/
abbrev setD (W : World) (b : Nat) (a0 a1 a2 a3 : Value) : World := (((W.setCell ⟨b, 0, none⟩ a0).setCell ⟨b, 1, none⟩ a1).setCell ⟨b, 2, none⟩ a2).setCell ⟨b, 3, none⟩ a3
theorem setD_box {W : World} {b : Nat} {t : TypeId} {z0 z1 z2 z3 : Value} (h : Box W b #[z0, z1, z2, z3] t) (a0 a1 a2 a3 : Value) : Box (setD W b a0 a1 a2 a3) b #[a0, a1, a2, a3] t := by
  have h2 := box_set (k := 3) (box_set (k := 2) (box_set (k := 1) (box_set (k := 0) h a0) a1) a2) a3
  simpa using h2
theorem setD_below {B : Nat} {W0 W : World} {b : Nat} (h : Below B W0 W) (hb : B ≤ b) (a0 a1 a2 a3 : Value) : Below B W0 (setD W b a0 a1 a2 a3) :=
  (((h.setCell (p := ⟨b, 0, none⟩) hb a0).setCell (p := ⟨b, 1, none⟩) hb a1).setCell (p := ⟨b, 2, none⟩) hb a2).setCell (p := ⟨b, 3, none⟩) hb a3
theorem setD_own {α : Type} {E : Ek α} {W : World} {B : Nat} {v : Value} {l : List α} (h : Own E W B v l) (b : Nat) (hb : b < B) (a0 a1 a2 a3 : Value) : Own E (setD W b a0 a1 a2 a3) B v l :=
  own_cell (own_cell (own_cell (own_cell h b 0 a0 hb) b 1 a1 hb) b 2 a2 hb) b 3 a3 hb
set_option maxRecDepth 100000 in
set_option maxHeartbeats 8000000 in
theorem cpAd_any (x : XAd) (p : List C5) (w : World) (hp : RowC w (slv x.2.2.1) p) (hl : p.length ≤ 900) :
    Calls Try.prog 22 #[valD x] w fun e w' => (∃ v' : Sl, e = .returned (valD (x.1, x.2.1, v', x.2.2.2)) ∧ OwnC w' w.heap.size (slv v') p) ∧ Below w.heap.size w w' := by
  obtain ⟨a, b, ⟨s1, s2, s3⟩, q⟩ := x
  obtain ⟨h0, X, Y⟩ := two_new w #[.int .i64 a, .int .i64 b, .slice s1 s2 s3, .int .i64 q] #[.int .i64 0, .int .i64 0, .slice none 0 0, .int .i64 0] 39 39
  have C := Lib.hid (cloneC_any (s1, s2, s3) p _ (hp.on h0) hl)
  have B := Lib.hid h0
  have x2 := X.cell 2
  simp only [List.getElem?_toArray, List.getElem?_cons_zero, List.getElem?_cons_succ] at x2
  have X := Lib.hid X
  have Y := Lib.hid Y
  clear h0 hp hl
  go_enter Try.func22, Try.ntmps22
  go_wp2_with fail
  generalize (w.alloc (.cells #[.int .i64 a, .int .i64 b, .slice s1 s2 s3, .int .i64 q] 39)).alloc (.cells #[.int .i64 0, .int .i64 0, .slice none 0 0, .int .i64 0] 39) = W at *
  refine C.out.mono ?_
  rintro e w1 ⟨⟨⟨u1, u2, u3⟩, rfl, ho⟩, hb⟩
  have X1 := X.out.on hb
  have Y1 := Y.out.on hb
  have hs : w.heap.size < W.heap.size := X.out.lt
  have O1 := Lib.hid (own_cell ho w.heap.size 2 (.slice u1 u2 u3) hs)
  have XB := Lib.hid (show Box _ _ #[.int .i64 a, .int .i64 b, .slice u1 u2 u3, .int .i64 q] _ from by simpa using box_set (k := 2) X1 (.slice u1 u2 u3))
  have YB := Lib.hid (show Box _ _ _ _ from (RowKit.Below.heap_setCell w1 ⟨w.heap.size, 2, none⟩ (.slice u1 u2 u3) _ (show w.heap.size + 1 ≠ w.heap.size by omega)).trans Y1)
  have B1 := Lib.hid ((B.out.trans (hb.mono B.out.size)).setCell (p := ⟨w.heap.size, 2, none⟩) (Nat.le_refl _) (.slice u1 u2 u3))
  have y2 := X1.cell 2
  have f2 := X1.fr 2
  have z2 := X1.lt
  simp only [List.getElem?_toArray, List.getElem?_cons_zero, List.getElem?_cons_succ] at y2
  clear X1 Y1 ho hb x2 C
  go_upto_region 2 with fail
  clear y2 f2 z2
  generalize w1.setCell ⟨w.heap.size, 2, none⟩ (.slice u1 u2 u3) = w2 at *
  have x0 := XB.out.cell 0
  have x1 := XB.out.cell 1
  have x2 := XB.out.cell 2
  have x3 := XB.out.cell 3
  have r0 := YB.out.cell 0
  have r1 := YB.out.cell 1
  have r2 := YB.out.cell 2
  have r3 := YB.out.cell 3
  have t0 := YB.out.fr 0
  have t1 := YB.out.fr 1
  have t2 := YB.out.fr 2
  have t3 := YB.out.fr 3
  simp only [List.getElem?_toArray, List.getElem?_cons_zero, List.getElem?_cons_succ] at x0 x1 x2 x3 r0 r1 r2 r3
  have zz := YB.out.lt
  have hs2 : w.heap.size + 1 < W.heap.size := Y.out.lt
  have FB := Lib.hid (setD_box YB.out (.int .i64 a) (.int .i64 b) (.slice u1 u2 u3) (.int .i64 q))
  have BL := Lib.hid (setD_below (b := w.heap.size + 1) B1.out (by omega) (.int .i64 a) (.int .i64 b) (.slice u1 u2 u3) (.int .i64 q))
  have FO := Lib.hid (setD_own O1.out (w.heap.size + 1) hs2 (.int .i64 a) (.int .i64 b) (.slice u1 u2 u3) (.int .i64 q))
  have HS := Lib.hid hs
  clear hs hs2
  go_wp2_with fail
  have v0 := FB.out.cell 0
  have v1 := FB.out.cell 1
  have v2 := FB.out.cell 2
  have v3 := FB.out.cell 3
  simp at v0 v1 v2 v3
  refine bodyPost_ret (v := .agg #[.int .i64 a, .int .i64 b, .slice u1 u2 u3, .int .i64 q]) (by simp [results, Try.results22, go_sem, v0, v1, v2, v3]) rfl ?_
  exact ⟨⟨(u1, u2, u3), rfl, own_fewer FO.out (Nat.le_of_lt HS.out)⟩, BL.out⟩
end Go.Proofs.Ytncogjpmboglhaa.Av

namespace Go.Proofs.Ytncogjpmboglhaa.Bk
open Go.RowKit Go.Proofs.Ytncogjpmboglhaa Go.Proofs.Ytncogjpmboglhaa.Rw Go.Proofs.Ytncogjpmboglhaa.Nm Go.Proofs.Ytncogjpmboglhaa.Pr

theorem cell_box {W : World} {b : Nat} {cs : Array Value} {t : TypeId} (hb : Box W b cs t) {a : Addr} {v : Value} (h : W.cell? a = some v) (e : a.block = b) : cs[a.off]? = some v := by
  unfold World.cell? at h
  unfold Box at hb
  rw [e, hb] at h
  have h2 : a.spot = none ∧ cs[a.off]? = some v := by simpa using h
  exact h2.2
theorem cell_keep {W W' : World} {b : Nat} (hk : ∀ j, j < W.heap.size → j ≠ b → W'.heap[j]? = W.heap[j]?) {a : Addr} {v : Value} (h : W.cell? a = some v) (e : a.block ≠ b) : W'.cell? a = some v := by
  have hlt := World.block_lt_of_cell? W _ h
  unfold World.cell? at h ⊢
  rw [hk _ hlt e]
  exact h
theorem add_blk (a : Addr) (j : Nat) : (a.add j).block = a.block := by unfold Addr.add; split <;> rfl
/-- A row of which no element can begin in such a block. -/
theorem row_keep {α : Type} {E : Ek α} (_K : E.Ok) {W W' : World} {b : Nat} {v : Value} {l : List α} (h : Row E W v l) (hk : ∀ j, j < W.heap.size → j ≠ b → W'.heap[j]? = W.heap[j]?) (hno : ∀ (a : Addr) (c : α), (∀ j u, (E.cells c)[j]? = some u → W.cell? (a.add j) = some u) → a.block ≠ b) : Row E W' v l := by
  rcases h with h | ⟨a, cap, h1, h2, h3, h4⟩
  · exact Or.inl h
  · refine Or.inr ⟨a, cap, h1, h2, h3, fun j u hj => ?_⟩
    cases l with
    | nil => simp [flat] at hj
    | cons c r =>
      have hne : a.block ≠ b := hno a c fun j u hj => h4 j u (by
        rw [flat, List.getElem?_append_left (by exact (List.getElem?_eq_some_iff.1 hj).1)]
        exact hj)
      exact cell_keep hk (h4 j u hj) (by rw [add_blk]; exact hne)
/-- Elements that begin with two numbers lie in no block in which no two numbers stand side by side. -/
theorem two_ints {α : Type} {E : Ek α} {W : World} {b : Nat} {cs : Array Value} {t : TypeId} (hb : Box W b cs t) (hE : ∀ c : α, ∃ i j : Int, (E.cells c)[0]? = some (.int .i64 i) ∧ (E.cells c)[1]? = some (.int .i64 j)) (hcs : ∀ (k : Nat) (i j : Int), cs[k]? = some (.int .i64 i) → cs[k + 1]? = some (.int .i64 j) → False) (a : Addr) (c : α) (h : ∀ j u, (E.cells c)[j]? = some u → W.cell? (a.add j) = some u) : a.block ≠ b := fun e => by
  obtain ⟨i, j, h0, h1⟩ := hE c
  have c0 := cell_box hb (h 0 _ h0) (by rw [add_blk]; exact e)
  have c1 := cell_box hb (h 1 _ h1) (by rw [add_blk]; exact e)
  have o0 : (a.add 0).off = a.off := by rw [Addr.add_zero']
  have o1 : (a.add 1).off = a.off + 1 := by rw [add_pos _ _ (by decide)]
  rw [o0] at c0
  rw [o1] at c1
  exact hcs a.off i j c0 c1
theorem no_text {W : World} {b : Nat} {cs : Array Value} {t : TypeId} (hb : Box W b cs t) (hcs : ∀ (k : Nat) (s : ByteArray), cs[k]? ≠ some (.string s)) (a : Addr) (c : C5) (h : ∀ j u, (EC.cells c)[j]? = some u → W.cell? (a.add j) = some u) : a.block ≠ b := fun e => by
  have c0 := cell_box hb (h 0 _ rfl) (by rw [add_blk]; exact e)
  exact hcs _ _ c0
theorem br_ints (me : Int) (s1 s2 s3 s4 s5 : Sl) : ∀ (k : Nat) (i j : Int), (brcells me s1 s2 s3 s4 s5)[k]? = some (.int .i64 i) → (brcells me s1 s2 s3 s4 s5)[k + 1]? = some (.int .i64 j) → False := by
  intro k i j h1 h2
  match k with
  | 0 => simp at h2
  | 1 => simp at h1
  | 2 => simp at h1
  | 3 => simp at h1
  | 4 => simp at h1
  | 5 => simp at h1
  | k + 6 => simp at h1
theorem br_text (me : Int) (s1 s2 s3 s4 s5 : Sl) : ∀ (k : Nat) (s : ByteArray), (brcells me s1 s2 s3 s4 s5)[k]? ≠ some (.string s) := by
  intro k s h
  match k with
  | 0 => simp at h
  | 1 => simp at h
  | 2 => simp at h
  | 3 => simp at h
  | 4 => simp at h
  | 5 => simp at h
  | k + 6 => simp at h
/-- A store into a broker's variable leaves a broker's rows, if it leaves its neighbours. -/
theorem brin_keep {W W' : World} {k : Nat} {me : Int} {s1 s2 s3 s4 s5 : Sl} {b : Br} {nv av sv ev ov : Sl} (h : BrIn W b nv av sv ev ov) (hb : Box W k (brcells me s1 s2 s3 s4 s5) 34) (hk : ∀ j, j < W.heap.size → j ≠ k → W'.heap[j]? = W.heap[j]?) (hn : RowI W' (slv nv) b.near) : BrIn W' b nv av sv ev ov where
  near := hn
  adv := by
    obtain ⟨l, h1, h2⟩ := h.adv
    exact ⟨l, row_keep okD h1 hk (two_ints hb (fun c => ⟨_, _, rfl, rfl⟩) (br_ints me s1 s2 s3 s4 s5)), h2.mono fun x a hx => ⟨hx.1, hx.2.1, row_keep okC hx.2.2 hk (no_text hb (br_text me s1 s2 s3 s4 s5))⟩⟩
  seen := row_keep okJ h.seen hk (two_ints hb (fun c => ⟨_, _, rfl, rfl⟩) (br_ints me s1 s2 s3 s4 s5))
  ent := by
    obtain ⟨l, h1, h2⟩ := h.ent
    exact ⟨l, row_keep okN h1 hk (two_ints hb (fun c => ⟨_, _, rfl, rfl⟩) (br_ints me s1 s2 s3 s4 s5)), h2.mono fun x a hx => ⟨hx.1, hx.2.1, hx.2.2.1, hx.2.2.2.1, row_keep okC hx.2.2.2.2 hk (no_text hb (br_text me s1 s2 s3 s4 s5))⟩⟩
  own := by
    obtain ⟨l, h1, h2⟩ := h.own
    exact ⟨l, row_keep okW h1 hk (two_ints hb (fun c => ⟨_, _, rfl, rfl⟩) (br_ints me s1 s2 s3 s4 s5)), h2.mono fun x a hx => ⟨hx.1, row_keep okC hx.2 hk (no_text hb (br_text me s1 s2 s3 s4 s5))⟩⟩
end Go.Proofs.Ytncogjpmboglhaa.Bk

namespace Go.Proofs.Ytncogjpmboglhaa.Bk
open Go.RowKit Go.Sort Go.Proofs.Ytncogjpmboglhaa Go.Proofs.Ytncogjpmboglhaa.Rw Go.Proofs.Ytncogjpmboglhaa.Nm Go.Proofs.Ytncogjpmboglhaa.Pr

theorem storeBr {W : World} {b : Nat} {z0 z1 z2 z3 z4 z5 : Value} (h : Box W b #[z0, z1, z2, z3, z4, z5] 34) (me : Int) (o1 o2 o3 o4 o5 : Option Addr) (n1 c1 n2 c2 n3 c3 n4 c4 n5 c5 : Nat) :
    (Instr.storeAt 34 (.pointer (some ⟨b, 0, none⟩)) (.agg #[.int .i64 me, .slice o1 n1 c1, .slice o2 n2 c2, .slice o3 n3 c3, .slice o4 n4 c4, .slice o5 n5 c5])).run Try.prog W = .ok () (setB W b (.int .i64 me) (.slice o1 n1 c1) (.slice o2 n2 c2) (.slice o3 n3 c3) (.slice o4 n4 c4) (.slice o5 n5 c5)) := by
  have x0 := h.cell 0
  have x1 := h.cell 1
  have x2 := h.cell 2
  have x3 := h.cell 3
  have x4 := h.cell 4
  have x5 := h.cell 5
  simp only [List.getElem?_toArray, List.getElem?_cons_zero, List.getElem?_cons_succ] at x0 x1 x2 x3 x4 x5
  have f0 := h.fr 0
  have f1 := h.fr 1
  have f2 := h.fr 2
  have f3 := h.fr 3
  have f4 := h.fr 4
  have f5 := h.fr 5
  simp [go_sem, x0, x1, x2, x3, x4, x5, f0, f1, f2, f3, f4, f5]
theorem loadBr {W : World} {b : Nat} {z0 z1 z2 z3 z4 z5 : Value} (h : Box W b #[z0, z1, z2, z3, z4, z5] 34) : (Instr.loadAt 34 (.pointer (some ⟨b, 0, none⟩))).run Try.prog W = .ok (.agg #[z0, z1, z2, z3, z4, z5]) W := by
  have x0 := h.cell 0
  have x1 := h.cell 1
  have x2 := h.cell 2
  have x3 := h.cell 3
  have x4 := h.cell 4
  have x5 := h.cell 5
  simp only [List.getElem?_toArray, List.getElem?_cons_zero, List.getElem?_cons_succ] at x0 x1 x2 x3 x4 x5
  simp [go_sem, x0, x1, x2, x3, x4, x5]
theorem ex_call3g {P : Program} (ρ : Operand → Value) (o : Oper) (x y z : Operand) (t s r : TypeId) (f : FuncId) (ho : o.op = .call { callee := .value (.func f), args := #[x, y, z], argTypes := #[t, s, r] }) {v u q : Value} (hx : ρ x = v) (hy : ρ y = u) (hz : ρ z = q) (hf : ρ (.func f) = .func (.func f) #[] #[]) (w : World)
    (hc : (callFunc f #[v, u, q]).run P w = .ok (.enter f #[v, u, q]) w) : (execOp ρ o).run P w = .ok (.enter f #[v, u, q]) w := by
  simp [execOp, ho, resolve, invoke, hx, hy, hz, hf, Deferred.ofValue, hc]
end Go.Proofs.Ytncogjpmboglhaa.Bk

namespace Go.Proofs.Ytncogjpmboglhaa.Av
open Go.RowKit Go.Sort Go.Proofs.Ytncogjpmboglhaa Go.Proofs.Ytncogjpmboglhaa.Rw Go.Proofs.Ytncogjpmboglhaa.Nm Go.Proofs.Ytncogjpmboglhaa.Pr Go.Proofs.Ytncogjpmboglhaa.Bk

theorem own_row_at {α : Type} {E : Ek α} (K : E.Ok) {W : World} {B g n cap k : Nat} {l : List α} {x : α} (h : Own E W B (.slice (some ⟨g, 0, none⟩) n cap) l) (hk : l[k]? = some x) : ∀ w, Below W.heap.size W w → ∀ j u, (E.cells x)[j]? = some u → w.cell? ((⟨g, k * E.n, none⟩ : Addr).add j) = some u := by
  obtain ⟨ao, c, hv⟩ := (Row.of_own h).len
  obtain ⟨rfl, rfl, rfl⟩ : some ⟨g, 0, none⟩ = ao ∧ n = l.length ∧ cap = c := by simpa using hv
  obtain ⟨p, h1, _, h2⟩ := row_el K (Row.of_own h) rfl rfl hk
  have h3 := index_own K g k l.length cap (List.getElem?_eq_some_iff.1 hk).1 W
  rw [h1] at h3
  injection h3 with h4 _
  injection h4 with h5
  injection h5 with h6
  subst h6
  exact h2
/-- The tag of a row's block. -/
theorem own_tag {α : Type} {E : Ek α} {W : World} {B g n cap : Nat} {l : List α} (h : Own E W B (.slice (some ⟨g, 0, none⟩) n cap) l) : ∃ cur, Box W g cur E.t := by
  rcases own_open h with ⟨h1, _⟩ | ⟨g', c', cur, h1, _, h2, _⟩
  · cases h1
  · obtain ⟨rfl, _⟩ : g = g' ∧ True := by simp at h1; exact ⟨h1.1, trivial⟩
    exact ⟨cur, h2⟩
theorem box_ne {W : World} {b g : Nat} {c d : Array Value} {s t : TypeId} (hb : Box W b c s) (hg : Box W g d t) (hne : (s == t) = false) : b ≠ g := by
  rintro rfl
  unfold Box at hb hg
  rw [hb] at hg
  injection hg with h
  injection h with _ h2
  rw [h2] at hne
  simp at hne
/-- All but one block stays. -/
def But (g : Nat) (W x : World) : Prop := (∀ k, k < W.heap.size → k ≠ g → x.heap[k]? = W.heap[k]?) ∧ W.heap.size ≤ x.heap.size
theorem But.box {g b : Nat} {W x : World} {cs : Array Value} {t : TypeId} (h : But g W x) (hb : Box W b cs t) (hne : b ≠ g) : Box x b cs t := (h.1 b hb.lt hne).trans hb
theorem But.own {α : Type} {E : Ek α} {g : Nat} {W x : World} {B : Nat} {v : Value} {l : List α} {d : Array Value} {t : TypeId} (h : But g W x) (ho : Own E W B v l) (hg : Box W g d t) (hne : (E.t == t) = false) : Own E x B v l := by
  refine ⟨ho.1, ?_⟩
  rcases ho.2 with h2 | ⟨g', cap, cur, h1, h2, h3, h4⟩
  · exact Or.inl h2
  · exact Or.inr ⟨g', cap, cur, h1, h2, by rw [h.1 g' (lt_of_heap h3) (box_ne (show Box W g' cur E.t from h3) hg hne)]; exact h3, h4⟩
theorem flatD_set : ∀ (l : List XAd) (k : Nat) (x : XAd), k < l.length → flat ED (l.set k x) = ((((flat ED l).set (k * 4) (.int .i64 x.1)).set (k * 4 + 1) (.int .i64 x.2.1)).set (k * 4 + 2) (slv x.2.2.1)).set (k * 4 + 3) (.int .i64 x.2.2.2)
  | [], k, x, h => by simp at h
  | y :: r, 0, x, _ => rfl
  | y :: r, k + 1, x, h => by
    have ih := flatD_set r k x (by simpa using h)
    rw [show (k + 1) * 4 + 3 = (k * 4 + 3) + 1 + 1 + 1 + 1 by omega, show (k + 1) * 4 + 2 = (k * 4 + 2) + 1 + 1 + 1 + 1 by omega, show (k + 1) * 4 + 1 = (k * 4 + 1) + 1 + 1 + 1 + 1 by omega, show (k + 1) * 4 = (k * 4) + 1 + 1 + 1 + 1 by omega]
    simp only [List.set_cons_succ, flat, ED, cellsD, List.cons_append, List.nil_append] at ih ⊢
    rw [ih]
theorem flatN_set : ∀ (l : List XEn) (k : Nat) (x : XEn) (s : Sl), l[k]? = some x → flat EN (l.set k (x.1, x.2.1, x.2.2.1, x.2.2.2.1, s, x.2.2.2.2.2.1, x.2.2.2.2.2.2)) = (flat EN l).set (k * 7 + 4) (slv s)
  | [], k, x, s, h => by simp at h
  | y :: r, 0, x, s, h => by
    obtain rfl : y = x := by simpa using h
    rfl
  | y :: r, k + 1, x, s, h => by
    have ih := flatN_set r k x s (by simpa using h)
    rw [show (k + 1) * 7 + 4 = (k * 7 + 4) + 1 + 1 + 1 + 1 + 1 + 1 + 1 by omega]
    simp only [List.set_cons_succ, flat, EN, cellsN, List.cons_append, List.nil_append] at ih ⊢
    rw [ih]
theorem flatW_set : ∀ (l : List XOw) (k : Nat) (x : XOw) (s : Sl), l[k]? = some x → flat EW (l.set k (x.1, x.2.1, s)) = (flat EW l).set (k * 3 + 2) (slv s)
  | [], k, x, s, h => by simp at h
  | y :: r, 0, x, s, h => by
    obtain rfl : y = x := by simpa using h
    rfl
  | y :: r, k + 1, x, s, h => by
    have ih := flatW_set r k x s (by simpa using h)
    rw [show (k + 1) * 3 + 2 = (k * 3 + 2) + 1 + 1 + 1 by omega]
    simp only [List.set_cons_succ, flat, EW, cellsW, List.cons_append, List.nil_append] at ih ⊢
    rw [ih]
/-- What a store into an element of a row of one's own does. -/
def StoQ {α : Type} (E : Ek α) (B g : Nat) (v : Value) (l : List α) (w w' : World) : Prop := Own E w' B v l ∧ But g w w' ∧ (∀ B' W, B' ≤ g → Below B' W w → Below B' W w')
theorem but_cell (w : World) (g j : Nat) (u : Value) : But g w (w.setCell ⟨g, j, none⟩ u) := ⟨fun k _ hk => RowKit.Below.heap_setCell w ⟨g, j, none⟩ u k hk, by simp⟩
theorem But.trans {g : Nat} {a b c : World} (h1 : But g a b) (h2 : But g b c) : But g a c := ⟨fun k hk hne => (h2.1 k (Nat.lt_of_lt_of_le hk h1.2) hne).trans (h1.1 k hk hne), Nat.le_trans h1.2 h2.2⟩
theorem But.of_below {g : Nat} {a b : World} (h : Below a.heap.size a b) : But g a b := ⟨fun k hk _ => h.block k hk, h.size⟩
set_option maxRecDepth 10000 in
theorem storeD {w : World} {B g n cap k : Nat} {l : List XAd} (x : XAd) (h : OwnD w B (.slice (some ⟨g, 0, none⟩) n cap) l) (hk : k < l.length) :
    ∃ w', (Instr.storeAt 39 (.pointer (some ⟨g, k * 4, none⟩)) (valD x)).run Try.prog w = .ok () w' ∧ StoQ ED B g (.slice (some ⟨g, 0, none⟩) n cap) (l.set k x) w w' := by
  obtain ⟨y, hy⟩ : ∃ y, l[k]? = some y := ⟨_, List.getElem?_eq_getElem hk⟩
  have c := own_row_at okD h hy w (Below.refl _ _)
  have c0 := c 0 _ rfl
  have c1 := c 1 _ rfl
  have c2 := c 2 _ rfl
  have c3 := c 3 _ rfl
  simp [Addr.add, ED] at c0 c1 c2 c3
  obtain ⟨cur, hb⟩ := own_tag h
  have f := fun j => hb.fr j
  obtain ⟨ao, c', hv⟩ := (Row.of_own h).len
  obtain ⟨_, rfl, _⟩ : some ⟨g, 0, none⟩ = ao ∧ n = l.length ∧ cap = c' := by simpa using hv
  have h : w.ownsRow B 39 4 (.slice (some ⟨g, 0, none⟩) l.length cap) l.length (flat ED l) := h
  have s1 := (h.stored (k * 4) (.int .i64 x.1)).1
  have s2 := (s1.stored (k * 4 + 1) (.int .i64 x.2.1)).1
  have s3 := (s2.stored (k * 4 + 2) (slv x.2.2.1)).1
  have s4 := (s3.stored (k * 4 + 3) (.int .i64 x.2.2.2)).1
  refine ⟨(((w.setCell ⟨g, k * 4, none⟩ (.int .i64 x.1)).setCell ⟨g, k * 4 + 1, none⟩ (.int .i64 x.2.1)).setCell ⟨g, k * 4 + 2, none⟩ (slv x.2.2.1)).setCell ⟨g, k * 4 + 3, none⟩ (.int .i64 x.2.2.2), ?_, ?_, ((but_cell _ g _ _).trans (but_cell _ g _ _)).trans ((but_cell _ g _ _).trans (but_cell _ g _ _)), fun B' W hB hb => (((hb.setCell (p := ⟨g, _, none⟩) hB _).setCell (p := ⟨g, _, none⟩) hB _).setCell (p := ⟨g, _, none⟩) hB _).setCell (p := ⟨g, _, none⟩) hB _⟩
  · simp [go_sem, c0, c1, c2, c3, f]
  · have e := flatD_set l k x hk
    show World.ownsRow _ B 39 4 _ (l.set k x).length (flat ED (l.set k x))
    rw [e, List.length_set]
    exact s4
theorem storeN {w : World} {B g n cap k : Nat} {l : List XEn} {x : XEn} (s1 : Option Addr) (s2 s3 : Nat) (h : OwnN w B (.slice (some ⟨g, 0, none⟩) n cap) l) (hk : l[k]? = some x) :
    ∃ w', (Instr.storeAt 24 (.pointer (some ⟨g, k * 7 + 4, none⟩)) (.slice s1 s2 s3)).run Try.prog w = .ok () w' ∧ StoQ EN B g (.slice (some ⟨g, 0, none⟩) n cap) (l.set k (x.1, x.2.1, x.2.2.1, x.2.2.2.1, (s1, s2, s3), x.2.2.2.2.2.1, x.2.2.2.2.2.2)) w w' := by
  have c := own_row_at okN h hk w (Below.refl _ _)
  have c4 := c 4 _ rfl
  simp [Addr.add, EN] at c4
  obtain ⟨cur, hb⟩ := own_tag h
  have f := hb.fr (k * 7 + 4)
  obtain ⟨ao, c', hv⟩ := (Row.of_own h).len
  obtain ⟨_, rfl, _⟩ : some ⟨g, 0, none⟩ = ao ∧ n = l.length ∧ cap = c' := by simpa using hv
  have h : w.ownsRow B 42 7 (.slice (some ⟨g, 0, none⟩) l.length cap) l.length (flat EN l) := h
  have t1 := (h.stored (k * 7 + 4) (.slice s1 s2 s3)).1
  refine ⟨w.setCell ⟨g, k * 7 + 4, none⟩ (.slice s1 s2 s3), by simp [go_sem, c4, f], ?_, but_cell _ g _ _, fun B' W hB hb => hb.setCell (p := ⟨g, _, none⟩) hB _⟩
  have e := flatN_set l k x (s1, s2, s3) hk
  show World.ownsRow _ B 42 7 _ (List.length _) (flat EN _)
  rw [e, List.length_set]
  exact t1
theorem storeW {w : World} {B g n cap k : Nat} {l : List XOw} {x : XOw} (s1 : Option Addr) (s2 s3 : Nat) (h : OwnW w B (.slice (some ⟨g, 0, none⟩) n cap) l) (hk : l[k]? = some x) :
    ∃ w', (Instr.storeAt 24 (.pointer (some ⟨g, k * 3 + 2, none⟩)) (.slice s1 s2 s3)).run Try.prog w = .ok () w' ∧ StoQ EW B g (.slice (some ⟨g, 0, none⟩) n cap) (l.set k (x.1, x.2.1, (s1, s2, s3))) w w' := by
  have c := own_row_at okW h hk w (Below.refl _ _)
  have c2 := c 2 _ rfl
  simp [Addr.add, EW] at c2
  obtain ⟨cur, hb⟩ := own_tag h
  have f := hb.fr (k * 3 + 2)
  obtain ⟨ao, c', hv⟩ := (Row.of_own h).len
  obtain ⟨_, rfl, _⟩ : some ⟨g, 0, none⟩ = ao ∧ n = l.length ∧ cap = c' := by simpa using hv
  have h : w.ownsRow B 90 3 (.slice (some ⟨g, 0, none⟩) l.length cap) l.length (flat EW l) := h
  have t1 := (h.stored (k * 3 + 2) (.slice s1 s2 s3)).1
  refine ⟨w.setCell ⟨g, k * 3 + 2, none⟩ (.slice s1 s2 s3), by simp [go_sem, c2, f], ?_, but_cell _ g _ _, fun B' W hB hb => hb.setCell (p := ⟨g, _, none⟩) hB _⟩
  have e := flatW_set l k x (s1, s2, s3) hk
  show World.ownsRow _ B 90 3 _ (List.length _) (flat EW _)
  rw [e, List.length_set]
  exact t1
theorem All2.set {α β : Type} {R : α → β → Prop} : ∀ {l : List α} {m : List β} (k : Nat) (a : α) (b : β), All2 R l m → m[k]? = some b → R a b → All2 R (l.set k a) m
  | _, _, _, _, _, .nil, h, _ => by simp at h
  | _, _, 0, a, b, .cons x t, h, hr => by
    simp at h
    subst h
    exact .cons hr t
  | _, _, k + 1, a, b, .cons x t, h, hr => .cons x (All2.set k a b t (by simpa using h) hr)
/-- A predicate: still the one that came in, or copied. -/
def PM (w0 : World) (B : Nat) (wr : World) (v : Value) (p : List C5) : Prop := RowC w0 v p ∨ OwnC wr B v p
def AdM (w0 : World) (B : Nat) (wr : World) (x : XAd) (a : Ad) : Prop := (x.1, x.2.1) = a.id ∧ x.2.2.2 = a.par ∧ PM w0 B wr (slv x.2.2.1) a.p
def EnM (w0 : World) (B : Nat) (wr : World) (x : XEn) (a : En) : Prop := (x.1, x.2.1) = a.tree ∧ (x.2.2.1, x.2.2.2.1) = a.sub ∧ x.2.2.2.2.2.1 = a.from_ ∧ x.2.2.2.2.2.2 = a.up ∧ PM w0 B wr (slv x.2.2.2.2.1) a.p
def OwM (w0 : World) (B : Nat) (wr : World) (x : XOw) (a : Ow) : Prop := (x.1, x.2.1) = a.id ∧ PM w0 B wr (slv x.2.2) a.p
theorem PM.grow {w0 wr x : World} {B : Nat} {v : Value} {p : List C5} (h : PM w0 B wr v p) (hb : Below wr.heap.size wr x) : PM w0 B x v p := h.imp id fun h => Bk.own_on h hb
theorem PM.but {w0 wr x : World} {B : Nat} {v : Value} {p : List C5} {g : Nat} {d : Array Value} {t : TypeId} (h : PM w0 B wr v p) (hb : But g wr x) (hg : Box wr g d t) (hne : (26 == t) = false) : PM w0 B x v p := h.imp id fun h => hb.own h hg hne
theorem PM.row {w0 wr : World} {B : Nat} {v : Value} {p : List C5} (h : PM w0 B wr v p) (hb : Below w0.heap.size w0 wr) : RowC wr v p := h.elim (fun h => h.on hb) Row.of_own
theorem AdM.grow {w0 wr x : World} {B : Nat} {y : XAd} {a : Ad} (h : AdM w0 B wr y a) (hb : Below wr.heap.size wr x) : AdM w0 B x y a := ⟨h.1, h.2.1, h.2.2.grow hb⟩
theorem EnM.grow {w0 wr x : World} {B : Nat} {y : XEn} {a : En} (h : EnM w0 B wr y a) (hb : Below wr.heap.size wr x) : EnM w0 B x y a := ⟨h.1, h.2.1, h.2.2.1, h.2.2.2.1, h.2.2.2.2.grow hb⟩
theorem OwM.grow {w0 wr x : World} {B : Nat} {y : XOw} {a : Ow} (h : OwM w0 B wr y a) (hb : Below wr.heap.size wr x) : OwM w0 B x y a := ⟨h.1, h.2.grow hb⟩
theorem AdM.but {w0 wr x : World} {B : Nat} {y : XAd} {a : Ad} {g : Nat} {d : Array Value} {t : TypeId} (h : AdM w0 B wr y a) (hb : But g wr x) (hg : Box wr g d t) (hne : (26 == t) = false) : AdM w0 B x y a := ⟨h.1, h.2.1, h.2.2.but hb hg hne⟩
theorem EnM.but {w0 wr x : World} {B : Nat} {y : XEn} {a : En} {g : Nat} {d : Array Value} {t : TypeId} (h : EnM w0 B wr y a) (hb : But g wr x) (hg : Box wr g d t) (hne : (26 == t) = false) : EnM w0 B x y a := ⟨h.1, h.2.1, h.2.2.1, h.2.2.2.1, h.2.2.2.2.but hb hg hne⟩
theorem OwM.but {w0 wr x : World} {B : Nat} {y : XOw} {a : Ow} {g : Nat} {d : Array Value} {t : TypeId} (h : OwM w0 B wr y a) (hb : But g wr x) (hg : Box wr g d t) (hne : (26 == t) = false) : OwM w0 B x y a := ⟨h.1, h.2.but hb hg hne⟩
/-- A broker whose rows are one's own, above B, and whose predicates are one's own or were there in w0. -/
structure Cp (w0 : World) (B : Nat) (wr : World) (b : Br) (nv av sv ev ov : Sl) : Prop where
  near : OwnI wr B (slv nv) b.near
  seen : OwnJ wr B (slv sv) b.seen
  adv : ∃ l, OwnD wr B (slv av) l ∧ All2 (AdM w0 B wr) l b.adv
  ent : ∃ l, OwnN wr B (slv ev) l ∧ All2 (EnM w0 B wr) l b.ent
  own : ∃ l, OwnW wr B (slv ov) l ∧ All2 (OwM w0 B wr) l b.own
theorem Cp.grow {w0 wr x : World} {B : Nat} {b : Br} {nv av sv ev ov : Sl} (h : Cp w0 B wr b nv av sv ev ov) (hb : Below wr.heap.size wr x) : Cp w0 B x b nv av sv ev ov where
  near := Bk.own_on h.near hb
  seen := Bk.own_on h.seen hb
  adv := by obtain ⟨l, h1, h2⟩ := h.adv; exact ⟨l, Bk.own_on h1 hb, h2.mono fun _ _ h => h.grow hb⟩
  ent := by obtain ⟨l, h1, h2⟩ := h.ent; exact ⟨l, Bk.own_on h1 hb, h2.mono fun _ _ h => h.grow hb⟩
  own := by obtain ⟨l, h1, h2⟩ := h.own; exact ⟨l, Bk.own_on h1 hb, h2.mono fun _ _ h => h.grow hb⟩
/-- A store into a broker's variable leaves its rows. -/
theorem Cp.but {w0 wr x : World} {B : Nat} {b : Br} {nv av sv ev ov : Sl} (h : Cp w0 B wr b nv av sv ev ov) {g : Nat} {d : Array Value} (hb : But g wr x) (hg : Box wr g d 34) : Cp w0 B x b nv av sv ev ov where
  near := hb.own h.near hg (by decide)
  seen := hb.own h.seen hg (by decide)
  adv := by obtain ⟨l, h1, h2⟩ := h.adv; exact ⟨l, hb.own h1 hg (by decide), h2.mono fun _ _ h => h.but hb hg (by decide)⟩
  ent := by obtain ⟨l, h1, h2⟩ := h.ent; exact ⟨l, hb.own h1 hg (by decide), h2.mono fun _ _ h => h.but hb hg (by decide)⟩
  own := by obtain ⟨l, h1, h2⟩ := h.own; exact ⟨l, hb.own h1 hg (by decide), h2.mono fun _ _ h => h.but hb hg (by decide)⟩
theorem Cp.br {w0 wr : World} {B : Nat} {b : Br} {nv av sv ev ov : Sl} (h : Cp w0 B wr b nv av sv ev ov) (hl : Below w0.heap.size w0 wr) : BrIn wr b nv av sv ev ov where
  near := Row.of_own h.near
  adv := by obtain ⟨l, h1, h2⟩ := h.adv; exact ⟨l, Row.of_own h1, h2.mono fun _ _ q => ⟨q.1, q.2.1, q.2.2.row hl⟩⟩
  seen := Row.of_own h.seen
  ent := by obtain ⟨l, h1, h2⟩ := h.ent; exact ⟨l, Row.of_own h1, h2.mono fun _ _ q => ⟨q.1, q.2.1, q.2.2.1, q.2.2.2.1, q.2.2.2.2.row hl⟩⟩
  own := by obtain ⟨l, h1, h2⟩ := h.own; exact ⟨l, Row.of_own h1, h2.mono fun _ _ q => ⟨q.1, q.2.row hl⟩⟩
/-- A broker while Copy fills it. -/
structure Cs (w0 w wr : World) (b : Br) (nv av sv ev ov : Sl) : Prop where
  bel : Below w.heap.size w wr
  bx : Box wr w.heap.size #[.int .i64 b.me, slv nv, slv av, slv sv, slv ev, slv ov] 34
  bz : Box wr (w.heap.size + 1) #[.int .i64 0, .slice none 0 0, .slice none 0 0, .slice none 0 0, .slice none 0 0, .slice none 0 0] 34
  near : OwnI wr w.heap.size (slv nv) b.near
  seen : OwnJ wr w.heap.size (slv sv) b.seen
  adv : ∃ l, OwnD wr w.heap.size (slv av) l ∧ All2 (AdM w0 w.heap.size wr) l b.adv
  ent : ∃ l, OwnN wr w.heap.size (slv ev) l ∧ All2 (EnM w0 w.heap.size wr) l b.ent
  own : ∃ l, OwnW wr w.heap.size (slv ov) l ∧ All2 (OwM w0 w.heap.size wr) l b.own
theorem Cs.setD {w0 w wr x : World} {b : Br} {nv sv ev ov : Sl} {g n cap : Nat} {l l' : List XAd} (h : Cs w0 w wr b nv (some ⟨g, 0, none⟩, n, cap) sv ev ov) (ho : OwnD wr w.heap.size (.slice (some ⟨g, 0, none⟩) n cap) l) (hx : OwnD x w.heap.size (.slice (some ⟨g, 0, none⟩) n cap) l') (hb : But g wr x) (hw : Below w.heap.size w x) (hA : All2 (AdM w0 w.heap.size x) l' b.adv) : Cs w0 w x b nv (some ⟨g, 0, none⟩, n, cap) sv ev ov := by
  obtain ⟨cur, hg⟩ := own_tag ho
  exact {
    bel := hw
    bx := hb.box h.bx (box_ne h.bx hg (by decide))
    bz := hb.box h.bz (box_ne h.bz hg (by decide))
    near := hb.own h.near hg (by decide)
    seen := hb.own h.seen hg (by decide)
    adv := ⟨l', hx, hA⟩
    ent := by obtain ⟨l, h1, h2⟩ := h.ent; exact ⟨l, hb.own h1 hg (by decide), h2.mono fun _ _ h => h.but hb hg (by decide)⟩
    own := by obtain ⟨l, h1, h2⟩ := h.own; exact ⟨l, hb.own h1 hg (by decide), h2.mono fun _ _ h => h.but hb hg (by decide)⟩ }
theorem Cs.setN {w0 w wr x : World} {b : Br} {nv av sv ov : Sl} {g n cap : Nat} {l l' : List XEn} (h : Cs w0 w wr b nv av sv (some ⟨g, 0, none⟩, n, cap) ov) (ho : OwnN wr w.heap.size (.slice (some ⟨g, 0, none⟩) n cap) l) (hx : OwnN x w.heap.size (.slice (some ⟨g, 0, none⟩) n cap) l') (hb : But g wr x) (hw : Below w.heap.size w x) (hA : All2 (EnM w0 w.heap.size x) l' b.ent) : Cs w0 w x b nv av sv (some ⟨g, 0, none⟩, n, cap) ov := by
  obtain ⟨cur, hg⟩ := own_tag ho
  exact {
    bel := hw
    bx := hb.box h.bx (box_ne h.bx hg (by decide))
    bz := hb.box h.bz (box_ne h.bz hg (by decide))
    near := hb.own h.near hg (by decide)
    seen := hb.own h.seen hg (by decide)
    adv := by obtain ⟨l, h1, h2⟩ := h.adv; exact ⟨l, hb.own h1 hg (by decide), h2.mono fun _ _ h => h.but hb hg (by decide)⟩
    ent := ⟨l', hx, hA⟩
    own := by obtain ⟨l, h1, h2⟩ := h.own; exact ⟨l, hb.own h1 hg (by decide), h2.mono fun _ _ h => h.but hb hg (by decide)⟩ }
theorem Cs.setW {w0 w wr x : World} {b : Br} {nv av sv ev : Sl} {g n cap : Nat} {l l' : List XOw} (h : Cs w0 w wr b nv av sv ev (some ⟨g, 0, none⟩, n, cap)) (ho : OwnW wr w.heap.size (.slice (some ⟨g, 0, none⟩) n cap) l) (hx : OwnW x w.heap.size (.slice (some ⟨g, 0, none⟩) n cap) l') (hb : But g wr x) (hw : Below w.heap.size w x) (hA : All2 (OwM w0 w.heap.size x) l' b.own) : Cs w0 w x b nv av sv ev (some ⟨g, 0, none⟩, n, cap) := by
  obtain ⟨cur, hg⟩ := own_tag ho
  exact {
    bel := hw
    bx := hb.box h.bx (box_ne h.bx hg (by decide))
    bz := hb.box h.bz (box_ne h.bz hg (by decide))
    near := hb.own h.near hg (by decide)
    seen := hb.own h.seen hg (by decide)
    adv := by obtain ⟨l, h1, h2⟩ := h.adv; exact ⟨l, hb.own h1 hg (by decide), h2.mono fun _ _ h => h.but hb hg (by decide)⟩
    ent := by obtain ⟨l, h1, h2⟩ := h.ent; exact ⟨l, hb.own h1 hg (by decide), h2.mono fun _ _ h => h.but hb hg (by decide)⟩
    own := ⟨l', hx, hA⟩ }
end Go.Proofs.Ytncogjpmboglhaa.Av

namespace Go.Proofs.Ytncogjpmboglhaa.Av
open Go.RowKit Go.Proofs.Ytncogjpmboglhaa Go.Proofs.Ytncogjpmboglhaa.Rw Go.Proofs.Ytncogjpmboglhaa.Nm Go.Proofs.Ytncogjpmboglhaa.Pr Go.Proofs.Ytncogjpmboglhaa.Bk

theorem findI_none (l : List XID) (x : XID) (h : ∀ (j : Nat) (y : XID), l[j]? = some y → y ≠ x) : findI l x = -1 := by
  induction l with
  | nil => rfl
  | cons a l ih =>
    rw [findI, if_neg (h 0 a rfl), ih fun j y hj => h (j + 1) y (by simpa using hj), if_pos rfl]
theorem findI_at (l : List XID) (k : Nat) (x : XID) (h : l[k]? = some x) (hall : ∀ (j : Nat) (z : XID), j < k → l[j]? = some z → z ≠ x) : findI l x = k := by
  induction l generalizing k with
  | nil => simp at h
  | cons a l ih =>
    cases k with
    | zero =>
      obtain rfl : a = x := by simpa using h
      rw [findI, if_pos rfl]
      rfl
    | succ k =>
      have h2 := ih k (by simpa using h) fun j z hj hz => hall (j + 1) z (by omega) (by simpa using hz)
      rw [findI, if_neg (hall 0 a (by omega) rfl), h2, if_neg (by omega)]
      omega
theorem findI_in (l : List XID) (x : XID) : decide ((0 : Int) ≤ findI l x) = decide (x ∈ l) := by
  induction l with
  | nil => simp [findI]
  | cons a l ih =>
    have hb := findI_bd l x
    rw [findI]
    by_cases h : a = x
    · rw [if_pos h]; simp [h]
    · rw [if_neg h]
      have h' : ¬ x = a := fun e => h e.symm
      simp only [List.mem_cons, h', false_or]
      rw [← ih]
      by_cases h2 : findI l x = -1
      · rw [if_pos h2, h2]
      · rw [if_neg h2]
        have h3 : 0 ≤ findI l x := by omega
        have h4 : 0 ≤ findI l x + 1 := by omega
        simp [h3, h4]
set_option maxRecDepth 100000 in
set_option maxHeartbeats 8000000 in
theorem index_any (sv : Sl) (l : List XID) (x : XID) (w : World) (hs : RowJ w (slv sv) l) :
    Calls Try.prog 66 #[slv sv, idv x] w fun e w' => e = .returned (.int .i64 (findI l x)) ∧ Below w.heap.size w w' := by
  obtain ⟨c, d⟩ := x
  obtain ⟨so, sn, sc⟩ := sv
  obtain ⟨ao, ac, hv⟩ := hs.len
  have hv : Value.slice so sn sc = .slice ao l.length ac := hv
  obtain ⟨rfl, rfl, rfl⟩ : so = ao ∧ sn = l.length ∧ sc = ac := by simpa using hv
  have h0 := newB w (.cells #[.int .i64 c, .int .i64 d] 23)
  have h2 := box_new w #[.int .i64 c, .int .i64 d] 23
  have B := Lib.hid h0
  have HS := Lib.hid (hs.on h0)
  have X3 := Lib.hid h2
  have lm := hs.most
  unfold maxLen at lm
  obtain ⟨n, hn⟩ : ∃ n, n = l.length := ⟨_, rfl⟩
  rw [← hn] at HS lm ⊢
  have HN := Lib.hid hn.symm
  clear h0 h2 hs hv hn
  go_enter Try.func66, Try.ntmps66
  go_upto_region 1 with fail
  generalize w.alloc (.cells #[.int .i64 c, .int .i64 d] 23) = W at *
  go_wp2
  go_loopw [8] (fun i wr => ∃ k : Nat, k ≤ n ∧ i = .int .i64 k ∧ Below W.heap.size W wr ∧ ∀ (j : Nat) (y : XID), j < k → l[j]? = some y → y ≠ (c, d)) (fun i _ => n - (intOf i).toNat)
  case atStart => exact ⟨0, Nat.zero_le _, rfl, Below.refl _ _, fun j y h => by omega⟩
  case round =>
    obtain ⟨k, hk, rfl, hbe, hall⟩ := hrel
    have BE := Lib.hid hbe
    have AL := Lib.hid hall
    clear hbe hall
    by_cases hlt : k < n
    · obtain ⟨y, hy⟩ : ∃ y, l[k]? = some y := ⟨_, List.getElem?_eq_getElem (by rw [HN.out]; exact hlt)⟩
      obtain ⟨p, ix, px⟩ := elJ HS.out rfl HN.out hy
      have DD : Below W.heap.size W wr.drew := BE.out.drew
      obtain ⟨p0, p1⟩ := px wr BE.out
      obtain ⟨y1, y2⟩ := y
      simp only at p0 p1
      have x0 := (X3.out.on BE.out).cell 0
      have x1 := (X3.out.on BE.out).cell 1
      simp only [List.getElem?_toArray, List.getElem?_cons_zero, List.getElem?_cons_succ] at x0 x1
      have hw3 : IntKind.i64.wrap ((k : Int) + 1) = (k : Int) + 1 := IntWalk.i64_in _ (by omega)
      obtain ⟨r, hr⟩ : ∃ r, (c == y1 && d == y2) = r := ⟨_, rfl⟩
      have he := eqId c d y1 y2 r hr
      have DB := Lib.hid DD
      have HY := Lib.hid hy
      have HR := Lib.hid hr
      clear px hy hr DD
      cases r
      · go_wp2_with fail
        go_quiet (fail)
        go_wp2
        go_roundw
        case rel => exact ⟨k + 1, by omega, by go_num, ⟨BE.out.os, BE.out.tape, BE.out.output, BE.out.size, BE.out.block⟩, fun j y' hj h1 => by
          rcases Nat.lt_or_ge j k with h3 | h3
          · exact AL.out j y' h3 h1
          · obtain rfl : j = k := by omega
            have e1 := HY.out
            rw [h1] at e1
            rw [Option.some.inj e1]
            intro e
            obtain ⟨rfl, rfl⟩ : y1 = c ∧ y2 = d := by simpa using e
            have := HR.out
            simp at this⟩
        case measure => simp [intOf]; omega
      · go_wp2_with fail
        go_quiet (fail)
        go_wp2
        go_ret
        have h8 := HR.out
        obtain ⟨rfl, rfl⟩ : c = y1 ∧ d = y2 := by simpa using h8
        exact ⟨by rw [findI_at l k (c, d) HY.out AL.out]; rfl, B.out.trans (Below.mono ⟨BE.out.os, BE.out.tape, BE.out.output, BE.out.size, BE.out.block⟩ B.out.size)⟩
    · obtain rfl : k = n := by omega
      go_wp2
      go_ret
      have hd : findI l (c, d) = -1 := findI_none l (c, d) fun j y hj => AL.out j y (by rw [← HN.out]; exact (List.getElem?_eq_some_iff.1 hj).1) hj
      exact ⟨by rw [hd]; rfl, B.out.trans (BE.out.mono B.out.size)⟩
set_option maxRecDepth 100000 in
theorem contains_any (sv : Sl) (l : List XID) (x : XID) (w : World) (hs : RowJ w (slv sv) l) :
    Calls Try.prog 43 #[slv sv, idv x] w fun e w' => e = .returned (.bool (decide (x ∈ l))) ∧ Below w.heap.size w w' := by
  have h0 := newB w (.cells #[.int .i64 x.1, .int .i64 x.2] 23)
  have h2 := box_new w #[.int .i64 x.1, .int .i64 x.2] 23
  have C := index_any sv l x _ (hs.on h0)
  have R := Lib.hid (findI_in l x)
  obtain ⟨c, d⟩ := x
  obtain ⟨so, sn, sc⟩ := sv
  have B := Lib.hid h0
  have x0 := h2.cell 0
  have x1 := h2.cell 1
  simp only [List.getElem?_toArray, List.getElem?_cons_zero, List.getElem?_cons_succ] at x0 x1
  generalize findI l (c, d) = r at *
  generalize decide ((c, d) ∈ l) = s at *
  clear h0 h2 hs
  go_enter Try.func43, Try.ntmps43
  go_wp2_with fail
  refine C.mono ?_
  rintro e w1 ⟨rfl, hb⟩
  go_wp2
  go_ret
  exact ⟨by have h := R.out; subst h; rfl, B.out.trans (hb.mono B.out.size)⟩
set_option maxRecDepth 100000 in
theorem aseen_any (me : Int) (nv av ev ov : Value) (sv : Sl) (l : List XID) (x : XID) (w : World) (hs : RowJ w (slv sv) l) :
    Calls Try.prog 19 #[.agg #[.int .i64 me, nv, av, slv sv, ev, ov], idv x] w fun e w' => e = .returned (.bool (decide (x ∈ l))) ∧ Below w.heap.size w w' := by
  obtain ⟨h0, h1, h2⟩ := two_new w #[.int .i64 me, nv, av, slv sv, ev, ov] #[.int .i64 x.1, .int .i64 x.2] 34 23
  have C := contains_any sv l x _ (hs.on h0)
  obtain ⟨c, d⟩ := x
  obtain ⟨so, sn, sc⟩ := sv
  have B := Lib.hid h0
  have b3 := h1.cell 3
  have x0 := h2.cell 0
  have x1 := h2.cell 1
  simp only [List.getElem?_toArray, List.getElem?_cons_zero, List.getElem?_cons_succ] at x0 x1 b3
  generalize decide ((c, d) ∈ l) = s at *
  clear h0 h1 h2 hs
  go_enter Try.func19, Try.ntmps19
  go_wp2_with fail
  refine C.mono ?_
  rintro e w1 ⟨rfl, hb⟩
  go_wp2
  go_ret
  exact ⟨rfl, B.out.trans (hb.mono B.out.size)⟩
end Go.Proofs.Ytncogjpmboglhaa.Av

namespace Go.Proofs.Ytncogjpmboglhaa.Rl
open Go.RowKit Go.Proofs.Ytncogjpmboglhaa Go.Proofs.Ytncogjpmboglhaa.Pu Go.Proofs.Ytncogjpmboglhaa.Rw Go.Proofs.Ytncogjpmboglhaa.Pr Go.Proofs.Ytncogjpmboglhaa.Va

end Go.Proofs.Ytncogjpmboglhaa.Rl

namespace Go.Proofs.Ytncogjpmboglhaa.Rl
open Go.RowKit Go.Proofs.Ytncogjpmboglhaa Go.Proofs.Ytncogjpmboglhaa.Pu Go.Proofs.Ytncogjpmboglhaa.Rw Go.Proofs.Ytncogjpmboglhaa.Pr Go.Proofs.Ytncogjpmboglhaa.Va

end Go.Proofs.Ytncogjpmboglhaa.Rl

namespace Go.Proofs.Ytncogjpmboglhaa.Rg
open Go.RowKit

end Go.Proofs.Ytncogjpmboglhaa.Rg

namespace Go.Proofs.Ytncogjpmboglhaa.Rg
open Go.RowKit Go.Proofs.Ytncogjpmboglhaa.Rw

end Go.Proofs.Ytncogjpmboglhaa.Rg

namespace Go.Proofs.Ytncogjpmboglhaa.Rg
open Go.RowKit Go.Proofs.Ytncogjpmboglhaa.Rw

/-- What an operation may rely on. -/
structure SeenX (i N A S : Nat) (d last : Nat → Nat) (V : Nat → Value → World → Prop) (base : Act) (o : Oper) (a : Act) (x : World) : Prop where
  kp : ∀ j u, (∀ i, i < N → d i ≠ j) → base.tmps[j]? = some u → a.eval (.tmp j) = u
  at_ : ∀ e ∈ o.after, Region.binds .any e = true → e.on ≠ A → e.on ≠ S → (last e.on = i ∨ N ≤ last e.on) → V e.on (a.eval (.tmp (d e.on))) x
structure InX (l : List Oper) (N A S C : Nat) (d last : Nat → Nat) (V : Nat → Value → World → Prop) (t : TypeId) (zero : Array Value) (cof : Value → Array Value) (base : Act) (W : World) (L : Array Bool) (a : Act) (x : World) : Prop where
  cl : ∀ i o, done L i → l[i]? = some o → ∀ e ∈ o.after, Region.binds .any e = true → done L e.on
  no : ∀ i, N ≤ i → ¬ done L i
  df : a.defers = base.defers
  sz : a.tmps.size = base.tmps.size
  kp : ∀ j, (∀ i, i < N → d i ≠ j) → a.tmps[j]? = base.tmps[j]?
  bel : Below W.heap.size W x
  val : ∃ vs : Nat → Value, ∀ i, i < N → i ≠ S → done L i → a.tmps[d i]? = some (vs i) ∧ (i ≠ A → ¬ done L (last i) → V i (vs i) x)
  box : done L A → ¬ done L S → ∃ bb, a.tmps[d A]? = some (.pointer (some ⟨bb, 0, none⟩)) ∧ W.heap.size ≤ bb ∧ Box x bb zero t
  fin : done L S → ∃ bb v, a.tmps[d A]? = some (.pointer (some ⟨bb, 0, none⟩)) ∧ a.tmps[d C]? = some v ∧ W.heap.size ≤ bb ∧ Box x bb (cof v) t ∧ V C v x
theorem region_mk {P : Program} {Q : Exit → Act → World → Prop} {id : Nat} {base : Act} {W : World} {l : List Oper} (N A S C : Nat) (d last : Nat → Nat) (V : Nat → Value → World → Prop) (t : TypeId) (zero : Array Value) (cof : Value → Array Value)
    (hm : P.follows .mixedOrders = true) (hf : fore l.toArray = true) (hN : l.length = N) (hA : A < N) (hS : S < N) (hC : C < N) (hAS : A ≠ S) (hCS : C ≠ S) (hAC : A ≠ C) (hlC : N ≤ last C)
    (hinj : ∀ i j, i < N → j < N → i ≠ S → j ≠ S → d i = d j → i = j) (hs : ∀ i, i < N → d i < base.tmps.size)
    (hV : ∀ i v x x', i < N → V i v x → Below x.heap.size x x' → V i v x')
    (hw : ∀ o, l[S]? = some o → (∃ e ∈ o.after, Region.binds .any e = true ∧ e.on = A) ∧ ∃ e ∈ o.after, Region.binds .any e = true ∧ e.on = C)
    (hop : ∀ i o, i < N → i ≠ A → i ≠ S → l[i]? = some o → ∀ a x, Below W.heap.size W x → SeenX i N A S d last V base o a x → ∀ K : Act → World → Prop, (∀ v x', V i v x' → Below x.heap.size x x' → K (a.put (some (d i)) v) x') → wpOp P l.toArray Q i K a x)
    (hoA : ∀ o, l[A]? = some o → ∀ a x, ∀ K : Act → World → Prop, K (a.put (some (d A)) (.pointer (some ⟨x.heap.size, 0, none⟩))) (x.alloc (.cells zero t)) → wpOp P l.toArray Q A K a x)
    (hoS : ∀ o, l[S]? = some o → ∀ a x bb v (D : Nat → Prop), (∀ j oj, D j → l[j]? = some oj → ∀ e ∈ oj.after, Region.binds .any e = true → D e.on) → (∀ e ∈ o.after, Region.binds .any e = true → D e.on) → Below W.heap.size W x → a.eval (.tmp (d A)) = .pointer (some ⟨bb, 0, none⟩) → a.eval (.tmp (d C)) = v → V C v x → W.heap.size ≤ bb → Box x bb zero t → ∀ K : Act → World → Prop, (∀ x', Below W.heap.size W x' → Box x' bb (cof v) t → (∀ j u, j < N → j ≠ A → j ≠ S → D j → ¬ D (last j) → last j ≠ S → V j u x → V j u x') → K a x') → wpOp P l.toArray Q S K a x)
    (hend : ∀ a x bb v, a.defers = base.defers → a.tmps.size = base.tmps.size → (∀ j, (∀ i, i < N → d i ≠ j) → a.tmps[j]? = base.tmps[j]?) → a.tmps[d A]? = some (.pointer (some ⟨bb, 0, none⟩)) → a.tmps[d C]? = some v → W.heap.size ≤ bb → Box x bb (cof v) t → V C v x → Below W.heap.size W x → (∃ vs : Nat → Value, ∀ i, i < N → i ≠ S → i ≠ A → a.tmps[d i]? = some (vs i) ∧ (N ≤ last i → V i (vs i) x)) → Q .normal a x) : (Code.region id l.toArray true).wp P Q base W := by
  refine region_inv (fun L a x => InX l N A S C d last V t zero cof base W L a x) hm hf ?_ ?_ ?_
  · exact ⟨fun i o h => absurd h (none_done _ _), fun i _ => none_done _ _, rfl, rfl, fun _ _ => rfl, (Below.refl _ _).drew, ⟨fun _ => .bool true, fun i _ _ h => absurd h (none_done _ _)⟩, fun h => absurd h (none_done _ _), fun h => absurd h (none_done _ _)⟩
  · intro L a x i o hsz I ho hnd hdep
    have hi : i < l.length := (List.getElem?_eq_some_iff.1 ho).1
    have hiN : i < N := by omega
    have hiL : i < L.size := by omega
    obtain ⟨vs, hvs⟩ := I.val
    have hon : ∀ e ∈ o.after, Region.binds .any e = true → e.on < i := fun e he hb => by
      have h7 := List.all_eq_true.1 hf i (List.mem_range.2 (by simpa using hi))
      have ho' : (l.toArray)[i]? = some o := by simpa using ho
      rw [ho'] at h7
      have h8 := Array.all_eq_true'.1 h7 e he
      rw [hb] at h8
      simpa using h8
    have dd : ∀ {k}, k ≠ i → done (L.setIfInBounds i true) k → done L k := fun {k} h h5 => ((done_set hiL k).1 h5).resolve_left h
    have du : ∀ {k}, done L k → done (L.setIfInBounds i true) k := fun {k} h => (done_set hiL k).2 (Or.inr h)
    have cl' : ∀ k q, done (L.setIfInBounds i true) k → l[k]? = some q → ∀ e ∈ q.after, Region.binds .any e = true → done (L.setIfInBounds i true) e.on := fun k q hk hq e he hb => by
      by_cases e2 : k = i
      · subst e2
        rw [hq] at ho
        cases ho
        exact du (hdep e he hb)
      · exact du (I.cl k q (dd e2 hk) hq e he hb)
    have no' : ∀ k, N ≤ k → ¬ done (L.setIfInBounds i true) k := fun k hk h => I.no k hk (dd (by omega) h)
    have seen : SeenX i N A S d last V base o a x := ⟨fun j u hj hu => eval_some (by rw [I.kp j hj]; exact hu), fun e he hb hA' hS' hl => by
      obtain ⟨h1, h2⟩ := hvs e.on (by have := hon e he hb; omega) hS' (hdep e he hb)
      rw [eval_some h1]
      refine h2 hA' ?_
      rcases hl with hl | hl
      · rw [hl]; exact hnd
      · exact I.no _ hl⟩
    have putI : i ≠ S → ∀ v x', Below x.heap.size x x' → (i ≠ A → V i v x') → (i = A → ∃ bb, v = .pointer (some ⟨bb, 0, none⟩) ∧ W.heap.size ≤ bb ∧ Box x' bb zero t) → InX l N A S C d last V t zero cof base W (L.setIfInBounds i true) (a.put (some (d i)) v) x' := by
      intro hiS v x' hb hpv hpa
      have self : (a.put (some (d i)) v).tmps[d i]? = some v := by
        have h5 : d i < a.tmps.size := by rw [I.sz]; exact hs i hiN
        simp [Act.put, h5]
      have keep : ∀ k, k < N → k ≠ S → k ≠ i → (a.put (some (d i)) v).tmps[d k]? = a.tmps[d k]? := fun k hk hkS hki => get_put _ _ _ _ (fun e => hki (hinj _ _ hk hiN hkS hiS e))
      refine ⟨cl', no', I.df, by rw [size_put]; exact I.sz, fun j hj => ?_, I.bel.trans (hb.mono I.bel.size), ⟨fun k => if k = i then v else vs k, fun k hk hkS hdn => ?_⟩, fun h1 h2 => ?_, fun h1 => ?_⟩
      · rw [get_put _ _ _ _ (fun e => hj i hiN e.symm)]
        exact I.kp j hj
      · by_cases e : k = i
        · subst e
          simp only [if_true]
          exact ⟨self, fun h3 _ => hpv h3⟩
        · simp only [if_neg e]
          obtain ⟨h3, h4⟩ := hvs k hk hkS (dd e hdn)
          exact ⟨by rw [keep k hk hkS e]; exact h3, fun h5 h6 => hV k _ _ _ hk (h4 h5 (fun h => h6 (du h))) hb⟩
      · by_cases e : A = i
        · subst e
          obtain ⟨bb, rfl, h4, h5⟩ := hpa rfl
          exact ⟨bb, self, h4, h5⟩
        · obtain ⟨bb, h3, h4, h5⟩ := I.box (dd e h1) (fun h => h2 (du h))
          exact ⟨bb, by rw [keep A hA hAS e]; exact h3, h4, h5.on hb⟩
      · have h2 := dd (Ne.symm hiS) h1
        obtain ⟨bb, u, h5, h6, h7, h8, h9⟩ := I.fin h2
        obtain ⟨oS, hoS'⟩ : ∃ oS, l[S]? = some oS := ⟨_, List.getElem?_eq_getElem (by omega)⟩
        obtain ⟨⟨ea, k1, k2, k3⟩, ec, k4, k5, k6⟩ := hw oS hoS'
        have dA := I.cl S oS h2 hoS' ea k1 k2
        have dC := I.cl S oS h2 hoS' ec k4 k5
        rw [k3] at dA
        rw [k6] at dC
        have eA : A ≠ i := fun e => hnd (e ▸ dA)
        have eC : C ≠ i := fun e => hnd (e ▸ dC)
        exact ⟨bb, u, by rw [keep A hA hAS eA]; exact h5, by rw [keep C hC hCS eC]; exact h6, h7, h8.on hb, hV C _ _ _ hC h9 hb⟩
    by_cases hiS : i = S
    · subst hiS
      obtain ⟨⟨ea, h1, h2, h3⟩, ec, h4, h5, h6⟩ := hw o ho
      have dA := hdep ea h1 h2
      have dC := hdep ec h4 h5
      rw [h3] at dA
      rw [h6] at dC
      obtain ⟨v1, v2⟩ := hvs C hC hCS dC
      obtain ⟨bb, b1, b2, b3⟩ := I.box dA hnd
      have vC := v2 (Ne.symm hAC) (I.no _ hlC)
      refine hoS o ho a x bb (vs C) (done L) I.cl hdep I.bel (eval_some b1) (eval_some v1) vC b2 b3 _ (fun x' q1 q2 q3 => ⟨cl', no', I.df, I.sz, I.kp, q1, ⟨vs, fun k hk hkS hdn => ?_⟩, fun _ hn => absurd ((done_set hiL _).2 (Or.inl rfl)) hn, fun _ => ⟨bb, vs C, b1, v1, b2, q2, ?_⟩⟩)
      · obtain ⟨w1, w2⟩ := hvs k hk hkS (dd hkS hdn)
        refine ⟨w1, fun hkA hnl => ?_⟩
        have n1 : last k ≠ i := fun e => hnl ((done_set hiL _).2 (Or.inl e))
        have n2 : ¬ done L (last k) := fun e => hnl (du e)
        exact q3 k _ hk hkA hkS (dd hkS hdn) n2 n1 (w2 hkA n2)
      · exact q3 C _ hC (Ne.symm hAC) hCS dC (I.no _ hlC) (by omega) vC
    · by_cases hiA : i = A
      · subst hiA
        refine hoA o ho a x _ (putI hiS _ _ ((Below.refl _ _).alloc (Nat.le_refl _) _) (fun h => absurd rfl h) (fun _ => ⟨x.heap.size, rfl, I.bel.size, box_new x zero t⟩))
      · refine hop i o hiN hiA hiS ho a x I.bel seen _ (fun v x' q1 q2 => putI hiS v x' q2 (fun _ => q1) (fun e => absurd e hiA))
  · intro L a x I hd
    have dS := hd S (by omega)
    obtain ⟨bb, v, h1, h2, h3, h4, h5⟩ := I.fin dS
    obtain ⟨vs, hvs⟩ := I.val
    exact hend a x bb v I.df I.sz I.kp h1 h2 h3 h4 h5 I.bel ⟨vs, fun i hi hiS hiA => by
      obtain ⟨k1, k2⟩ := hvs i hi hiS (hd i (by omega))
      exact ⟨k1, fun hl => k2 hiA (I.no _ hl)⟩⟩
end Go.Proofs.Ytncogjpmboglhaa.Rg

namespace Go.Proofs
open Go.Shelf
def Try.sortI_ren : Go.Shelf.Ren := ⟨fun | 189 => 27 | 125 => 56 | 257 => 55 | 128 => 81 | 129 => 82 | 294 => 72 | 295 => 73 | 296 => 74 | 297 => 75 | 298 => 76 | 299 => 77 | 216 => 78 | 300 => 79 | 301 => 80 | 328 => 88 | 329 => 89 | 330 => 90 | 331 => 91 | 332 => 92 | 215 => 71 | 343 => 98 | n => n, fun | 28 => 28 | 3 => 3 | 46 => 100 | 0 => 0 | 51 => 122 | 53 => 124 | 4 => 4 | 183 => 115 | 182 => 114 | 131 => 69 | 5 => 5 | 9 => 9 | 218 => 125 | 222 => 129 | 228 => 138 | 229 => 139 | n => n, fun | n => n⟩
theorem Try.sortI : Go.Proofs.Lays.n189 Try.prog Try.sortI_ren := {
  mixed := by kernel_rfl
  f125 := Try.func56.trans (congrArg some (by kernel_rfl))
  f128 := Try.func81.trans (congrArg some (by kernel_rfl))
  f129 := Try.func82.trans (congrArg some (by kernel_rfl))
  f189 := Try.func27.trans (congrArg some (by kernel_rfl))
  f215 := Try.func71.trans (congrArg some (by kernel_rfl))
  f216 := Try.func78.trans (congrArg some (by kernel_rfl))
  f257 := Try.func55.trans (congrArg some (by kernel_rfl))
  f294 := Try.func72.trans (congrArg some (by kernel_rfl))
  f295 := Try.func73.trans (congrArg some (by kernel_rfl))
  f296 := Try.func74.trans (congrArg some (by kernel_rfl))
  f297 := Try.func75.trans (congrArg some (by kernel_rfl))
  f298 := Try.func76.trans (congrArg some (by kernel_rfl))
  f299 := Try.func77.trans (congrArg some (by kernel_rfl))
  f300 := Try.func79.trans (congrArg some (by kernel_rfl))
  f301 := Try.func80.trans (congrArg some (by kernel_rfl))
  f328 := Try.func88.trans (congrArg some (by kernel_rfl))
  f329 := Try.func89.trans (congrArg some (by kernel_rfl))
  f330 := Try.func90.trans (congrArg some (by kernel_rfl))
  f331 := Try.func91.trans (congrArg some (by kernel_rfl))
  f332 := Try.func92.trans (congrArg some (by kernel_rfl))
  f343 := Try.func98.trans (congrArg some (by kernel_rfl))
  t0 := Try.underlying0
  a0 := Try.isAgg0
  z0 := Try.sizeOf0
  v0 := Try.zeroValue0
  t3 := Try.underlying3
  a3 := Try.isAgg3
  z3 := Try.sizeOf3
  v3 := Try.zeroValue3
  t4 := Try.underlying4
  a4 := Try.isAgg4
  z4 := Try.sizeOf4
  v4 := Try.zeroValue4
  t5 := Try.underlying5
  a5 := Try.isAgg5
  z5 := Try.sizeOf5
  v5 := Try.zeroValue5
  t9 := Try.underlying9
  a9 := Try.isAgg9
  z9 := Try.sizeOf9
  v9 := Try.zeroValue9
  t28 := Try.underlying28
  a28 := Try.isAgg28
  z28 := Try.sizeOf28
  v28 := Try.zeroValue28
  t46 := Try.underlying100
  a46 := Try.isAgg100
  z46 := Try.sizeOf100
  v46 := Try.zeroValue100
  t51 := Try.underlying122
  a51 := Try.isAgg122
  z51 := Try.sizeOf122
  v51 := Try.zeroValue122
  t53 := Try.underlying124
  a53 := Try.isAgg124
  z53 := Try.sizeOf124
  v53 := Try.zeroValue124
  t131 := Try.underlying69
  a131 := Try.isAgg69
  z131 := Try.sizeOf69
  v131 := Try.zeroValue69
  t182 := Try.underlying114
  a182 := Try.isAgg114
  z182 := Try.sizeOf114
  v182 := Try.zeroValue114
  t183 := Try.underlying115
  a183 := Try.isAgg115
  z183 := Try.sizeOf115
  v183 := Try.zeroValue115
  t218 := Try.underlying125
  a218 := Try.isAgg125
  z218 := Try.sizeOf125
  v218 := Try.zeroValue125
  t222 := Try.underlying129
  a222 := Try.isAgg129
  z222 := Try.sizeOf129
  v222 := Try.zeroValue129
  t228 := Try.underlying138
  a228 := Try.isAgg138
  z228 := Try.sizeOf138
  v228 := Try.zeroValue138
  t229 := Try.underlying139
  a229 := Try.isAgg139
  z229 := Try.sizeOf139
  v229 := Try.zeroValue139 }
def Try.cptI_ren : Go.Shelf.Ren := ⟨fun | 20 => 28 | n => n, fun | 0 => 0 | 3 => 3 | 4 => 4 | 22 => 28 | n => n, fun | n => n⟩
theorem Try.cptI : Go.Proofs.Lays2.n20 Try.prog Try.cptI_ren := {
  mixed := by kernel_rfl
  i3 := by kernel_rfl
  f20 := Try.func28.trans (congrArg some (by kernel_rfl))
  t0 := Try.underlying0
  a0 := Try.isAgg0
  z0 := Try.sizeOf0
  v0 := Try.zeroValue0
  t3 := Try.underlying3
  a3 := Try.isAgg3
  z3 := Try.sizeOf3
  v3 := Try.zeroValue3
  t4 := Try.underlying4
  a4 := Try.isAgg4
  z4 := Try.sizeOf4
  v4 := Try.zeroValue4
  t22 := Try.underlying28
  a22 := Try.isAgg28
  z22 := Try.sizeOf28
  v22 := Try.zeroValue28 }
end Go.Proofs

namespace Go.Proofs.Ytncogjpmboglhaa.Av
open Go.RowKit Go.Proofs.Ytncogjpmboglhaa Go.Proofs.Ytncogjpmboglhaa.Rw Go.Proofs.Ytncogjpmboglhaa.Nm Go.Proofs.Ytncogjpmboglhaa.Pr Go.Proofs.Ytncogjpmboglhaa.Bk Go.Sort

theorem put_take {α : Type} [Inhabited α] (enc : α → Value) (d : Array α) (cur : Array Value) (h : d.size ≤ cur.size) : (putCells enc 0 d cur).toList.take d.size = d.toList.map enc := by
  apply List.ext_getElem?
  intro j
  rw [List.getElem?_take]
  by_cases hj : j < d.size
  · have hc : j < cur.size := by omega
    simp [putCells, hj, hc]
  · simp [hj]
/-- A row of one's own, behind a sort. -/
theorem own_sorted {α β : Type} [Inhabited β] {E : Ek α} (K : E.Ok) {w : World} {B g cap : Nat} {l l' : List α} (h : Own E w B (.slice (some ⟨g, 0, none⟩) l.length cap) l) (enc : β → Value) (d : Array β) (hd : d.toList.map enc = flat E l') (hl : l'.length = l.length) (n : Nat) (os : Array Obj) :
    Own E (grow (putRow enc (Sort.ahead w n) g 0 d) os) B (.slice (some ⟨g, 0, none⟩) l.length cap) l' ∧ w.grownBy (grow (putRow enc (Sort.ahead w n) g 0 d) os) (some g) := by
  have hds : d.size = l.length * E.n := by
    rw [← hl, ← flat_length K l', ← hd]
    simp
  rcases own_open h with ⟨e, _⟩ | ⟨g', cap', cur, e, h1, h2, h3, h4, h5, h6⟩
  · cases e
  obtain ⟨rfl, rfl⟩ : g = g' ∧ cap = cap' := by simpa using e
  have hlt := lt_of_heap h2
  have hb : (grow (putRow enc (Sort.ahead w n) g 0 d) os).heap[g]? = some (.cells (putCells enc 0 d cur) E.t (0, 0)) := by
    rw [heap_grow_old _ _ (by simp [putRow, mapBlock, Sort.ahead]; exact hlt)]
    unfold Box at h2
    simp only [putRow, mapBlock, Sort.ahead, Array.getElem?_modify, if_true, h2]
    rfl
  have hfit : d.size ≤ cur.size := by
    rw [hds, h5]
    exact Nat.mul_le_mul_right _ h3
  refine ⟨⟨by rw [flat_length K], Or.inr ⟨g, cap, _, by rw [hl], h1, hb, by rw [hl]; exact h3, h4, by simp [putCells]; exact h5, ?_⟩⟩, ⟨rfl, rfl, rfl, by simp [putRow, mapBlock, Sort.ahead], fun k hk hne => ?_⟩⟩
  · rw [hl, ← hds, put_take enc d cur hfit, hd]
  · rw [heap_grow_old _ _ (by simp [putRow, mapBlock, Sort.ahead]; exact hk)]
    have hkg : g ≠ k := fun e => hne (by rw [e])
    simp [putRow, mapBlock, Sort.ahead, Array.getElem?_modify, hkg]
theorem holds_own {α : Type} {E : Ek α} {w : World} {B g cap : Nat} {l : List α} (K : E.Ok) {β : Type} [Inhabited β] (enc : β → Value) (d : Array β) (hd : d.toList.map enc = flat E l) (h : Own E w B (.slice (some ⟨g, 0, none⟩) l.length cap) l) : Holds enc w g 0 d ∧ g < w.heap.size := by
  rcases own_open h with ⟨e, _⟩ | ⟨g', cap', cur, e, h1, h2, h3, h4, h5, h6⟩
  · cases e
  obtain ⟨rfl, rfl⟩ : g = g' ∧ cap = cap' := by simpa using e
  refine ⟨fun j hj => ?_, h2.lt⟩
  rw [Nat.zero_add]
  refine ⟨?_, h2.fr j⟩
  rw [h2.cell j]
  have hsz : d.size = l.length * E.n := by
    rw [← flat_length K l, ← hd]
    simp
  have h7 : (cur.toList.take (l.length * E.n))[j]? = (d.toList.map enc)[j]? := by rw [h6, hd]
  rw [List.getElem?_take, if_pos (by omega)] at h7
  rw [Array.getElem?_toList] at h7
  rw [h7, List.getElem?_map, Array.getElem?_toList, getElem!_pos d j hj, Array.getElem?_eq_getElem hj]
  rfl
theorem sortI_any (w : World) (B : Nat) (v : Value) (l : List Int) (h : OwnI w B v l) (hlen : l.length ≤ 900) : Calls Try.prog 27 #[v] w fun e w' => e = .returned (.tuple #[]) ∧ ∃ l' : List Int, OwnI w' B v l' ∧ l'.Perm l ∧ l'.Pairwise (· ≤ ·) ∧ w.grownBy w' v.ownBlock := by
  rcases own_open h with ⟨rfl, rfl⟩ | ⟨g, cap, cur, rfl, h1, h2, h3, h4, h5, h6⟩
  · have hc := Any.slices_Sort_int_none Try.sortI none 0 w
    refine Calls.mono hc ?_
    rintro e w' ⟨rfl, rfl⟩
    exact ⟨rfl, [], h, List.Perm.refl _, List.Pairwise.nil, Rw.grown_refl _ _⟩
  · obtain ⟨hh, hlt⟩ := holds_own Nm.okI (Value.int .i64) l.toArray (by rw [flatI]) h
    have hc := Any.slices_Sort_int Try.sortI g 0 cap l w hh hlt (by omega)
    refine Calls.mono hc ?_
    rintro e w' ⟨rfl, n, os, rfl⟩
    have hs := own_sorted Nm.okI (l' := l.mergeSort fun x y => decide (x ≤ y)) h (Value.int .i64) (l.mergeSort fun x y => decide (x ≤ y)).toArray (by rw [flatI]) (List.length_mergeSort l) n os
    refine ⟨rfl, _, hs.1, List.mergeSort_perm _ _, ?_, hs.2⟩
    have hp := List.pairwise_mergeSort (le := fun x y : Int => decide (x ≤ y)) (fun a b c h1 h2 => by simp at h1 h2 ⊢; omega) (fun a b => by simp; omega) l
    exact hp.imp (fun {a b} hab => by simpa using hab)
theorem cpt_step (d : Array Int) (n : Nat) (hs : ∀ i j, i ≤ j → j < n → d[i]! ≤ d[j]!) : ∀ m, m ≤ n → (∀ x ∈ Lib.compactUpTo d m, ∃ j, j < m ∧ d[j]! = x) ∧ (∀ j, j < m → d[j]! ∈ Lib.compactUpTo d m) ∧ (Lib.compactUpTo d m).Pairwise (· < ·)
  | 0, _ => ⟨fun x h => by simp [Lib.compactUpTo] at h, fun j h => by omega, by simp [Lib.compactUpTo]⟩
  | m + 1, hm => by
    obtain ⟨h1, h2, h3⟩ := cpt_step d n hs m (by omega)
    rw [Lib.compactUpTo_succ]
    cases hk : Lib.keeps d m with
    | false =>
      simp only [Bool.false_eq_true, if_false, List.append_nil]
      have hk' : m ≠ 0 ∧ d[m]! = d[m - 1]! := by
        have h := of_decide_eq_false hk
        rw [not_or] at h
        exact ⟨h.1, Classical.not_not.1 h.2⟩
      refine ⟨fun x hx => ?_, fun j hj => ?_, h3⟩
      · obtain ⟨j, hj, e⟩ := h1 x hx
        exact ⟨j, by omega, e⟩
      · rcases Nat.lt_or_ge j m with h | h
        · exact h2 j h
        · obtain rfl : j = m := by omega
          rw [hk'.2]
          exact h2 _ (by omega)
    | true =>
      simp only [if_true]
      have hk' : m = 0 ∨ d[m]! ≠ d[m - 1]! := of_decide_eq_true hk
      refine ⟨fun x hx => ?_, fun j hj => ?_, ?_⟩
      · rcases List.mem_append.1 hx with h | h
        · obtain ⟨j, hj, e⟩ := h1 x h
          exact ⟨j, by omega, e⟩
        · exact ⟨m, by omega, (List.mem_singleton.1 h).symm⟩
      · rcases Nat.lt_or_ge j m with h | h
        · exact List.mem_append_left _ (h2 j h)
        · obtain rfl : j = m := by omega
          exact List.mem_append_right _ (by simp)
      · rw [List.pairwise_append]
        refine ⟨h3, List.pairwise_singleton _ _, fun a ha b hb => ?_⟩
        obtain ⟨j, hj, rfl⟩ := h1 a ha
        rw [List.mem_singleton.1 hb]
        have a1 := hs j (m - 1) (by omega) (by omega)
        have a2 := hs (m - 1) m (by omega) (by omega)
        rcases hk' with h | h
        · omega
        · omega
theorem compact_is (l : List Int) (hs : l.Pairwise (· ≤ ·)) : (Lib.compact l).Pairwise (· < ·) ∧ (∀ x, x ∈ Lib.compact l ↔ x ∈ l) ∧ (Lib.compact l).length ≤ l.length := by
  have hd : ∀ i j, i ≤ j → j < l.length → l.toArray[i]! ≤ l.toArray[j]! := by
    intro i j hij hj
    rw [getElem!_pos l.toArray i (by simp; omega), getElem!_pos l.toArray j (by simpa using hj)]
    rcases Nat.lt_or_ge i j with h | h
    · have := List.pairwise_iff_getElem.1 hs i j (by omega) hj h
      simpa using this
    · obtain rfl : i = j := by omega
      exact Int.le_refl _
  obtain ⟨h1, h2, h3⟩ := cpt_step l.toArray l.length hd l.length (Nat.le_refl _)
  refine ⟨h3, fun x => ⟨fun hx => ?_, fun hx => ?_⟩, ?_⟩
  · obtain ⟨j, hj, rfl⟩ := h1 x hx
    rw [getElem!_pos l.toArray j (by simpa using hj)]
    simp
  · obtain ⟨j, hj, rfl⟩ := List.mem_iff_getElem.1 hx
    have := h2 j hj
    rw [getElem!_pos l.toArray j (by simpa using hj)] at this
    simpa [Lib.compact] using this
  · unfold Lib.compact Lib.compactUpTo
    rw [List.length_map]
    exact Nat.le_trans (List.length_filter_le _ _) (by simp)
theorem cptI_any (w : World) (B : Nat) (v : Sl) (l : List Int) (h : OwnI w B (slv v) l) (hs : l.Pairwise (· ≤ ·)) (hlen : l.length ≤ 900) : Calls Try.prog 28 #[slv v] w fun e w' => (∃ v' : Sl, e = .returned (slv v') ∧ ∃ l' : List Int, OwnI w' B (slv v') l' ∧ l'.Pairwise (· < ·) ∧ ∀ x, x ∈ l' ↔ x ∈ l) ∧ w.grownBy w' (slv v).ownBlock := by
  obtain ⟨vo, vn, vc⟩ := v
  rcases own_open h with ⟨h0, rfl⟩ | ⟨g, cap, cur, h0, h1, h2, h3, h4, h5, h6⟩
  · obtain ⟨rfl, rfl, rfl⟩ : vo = none ∧ vn = 0 ∧ vc = 0 := by simpa using h0
    have hc := Any.slices_Compact_int_empty Try.cptI none 0 w
    refine Calls.mono hc ?_
    rintro e w' ⟨rfl, rfl⟩
    exact ⟨⟨(none, 0, 0), rfl, [], h, List.Pairwise.nil, fun _ => Iff.rfl⟩, Rw.grown_refl _ _⟩
  · obtain ⟨rfl, rfl, rfl⟩ : vo = some ⟨g, 0, none⟩ ∧ vn = l.length ∧ vc = cap := by simpa using h0
    obtain ⟨hh, hlt⟩ := holds_own Nm.okI (Value.int .i64) l.toArray (by rw [flatI]) h
    have hc := Any.slices_Compact_int Try.cptI g 0 vc l w hh (by omega) h3
    obtain ⟨c1, c2, c3⟩ := compact_is l hs
    refine Calls.mono hc ?_
    rintro e w' ⟨rfl, n, rfl⟩
    have ht := own_sorted Nm.okI (l' := Lib.compact l ++ List.replicate (l.length - (Lib.compact l).length) 0) h (Value.int .i64) (Lib.compact l ++ List.replicate (l.length - (Lib.compact l).length) 0).toArray (by rw [flatI]) (by rw [List.length_append, List.length_replicate]; omega) n #[]
    have hg : grow (putRow (Value.int .i64) (Sort.ahead w n) g 0 (Lib.compact l ++ List.replicate (l.length - (Lib.compact l).length) 0).toArray) #[] = putRow (Value.int .i64) (Sort.ahead w n) g 0 (Lib.compact l ++ List.replicate (l.length - (Lib.compact l).length) 0).toArray := grow_empty _
    rw [hg] at ht
    refine ⟨⟨(some ⟨g, 0, none⟩, (Lib.compact l).length, vc), rfl, Lib.compact l, ?_, c1, c2⟩, ht.2⟩
    rcases own_open ht.1 with ⟨e, _⟩ | ⟨g', cap', cur', e, k1, k2, k3, k4, k5, k6⟩
    · cases e
    · obtain ⟨rfl, _, rfl⟩ : g = g' ∧ l.length = _ ∧ vc = cap' := by simpa using e
      refine own_shut Nm.okI rfl k1 k2 (Nat.le_trans c3 h3) k4 k5 ?_
      have k7 := congrArg (List.take ((Lib.compact l).length * EI.n)) k6
      rw [List.take_take, flat_take Nm.okI, Nat.min_eq_left (Nat.mul_le_mul_right _ (by rw [List.length_append]; omega)), List.take_left'] at k7
      · exact k7
      · rfl
end Go.Proofs.Ytncogjpmboglhaa.Av
