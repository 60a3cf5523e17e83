/-
  ahead, place and branch of package subs, by sort.Search: where a tree's entry stands, and which are a tree's. Conditions: the entries rise; at most a million of them.
-/
import Derived.Test.YtncogjpmboglhaaQ035
import Derived.Test.YtncogjpmboglhaaQ010
import Derived.Deep.LoopGhost
import Derived.Laws.Externs
import Derived.Shelf.Abstract
namespace Go.Proofs.Ytncogjpmboglhaa.Sb
open Go.RowKit Go.Sort Go.Proofs.Ytncogjpmboglhaa Go.Proofs.Ytncogjpmboglhaa.Rw Go.Proofs.Ytncogjpmboglhaa.Nm Go.Proofs.Ytncogjpmboglhaa.Pr Go.Proofs.Ytncogjpmboglhaa.Bk Go.Proofs.Ytncogjpmboglhaa.Av

set_option maxRecDepth 100000 in
set_option maxHeartbeats 4000000 in
theorem ahead_any (x : XEn) (t s : XID) (r : Bool) (hr : lessP (keyN x) (t, s) = r) (w : World) : Calls Try.prog 59 #[valN x, idv t, idv s] w fun e w' => e = .returned (.bool r) ∧ Below w.heap.size w w' := by
  obtain ⟨y1, y2, y3, y4, ⟨yo, yn, yc⟩, y6, y7⟩ := x
  obtain ⟨c, d⟩ := t
  obtain ⟨g, h⟩ := s
  obtain ⟨h0, X, Y, Z⟩ := three_new w #[.int .i64 y1, .int .i64 y2, .int .i64 y3, .int .i64 y4, .slice yo yn yc, .int .i64 y6, .bool y7] #[.int .i64 c, .int .i64 d] #[.int .i64 g, .int .i64 h] 42 23 23
  have x0 := X.cell 0
  have x1 := X.cell 1
  have x2 := X.cell 2
  have x3 := X.cell 3
  have c0 := Y.cell 0
  have c1 := Y.cell 1
  have d0 := Z.cell 0
  have d1 := Z.cell 1
  simp only [List.getElem?_toArray, List.getElem?_cons_zero, List.getElem?_cons_succ] at x0 x1 x2 x3 c0 c1 d0 d1
  have C1 := aless_any (y1, y2) (c, d)
  have C2 := aless_any (y3, y4) (g, h)
  have B := Lib.hid h0
  have he : lessP ((y1, y2), (y3, y4)) ((c, d), (g, h)) = if ((y1, y2) : XID) = (c, d) then lessI (y3, y4) (g, h) else lessI (y1, y2) (c, d) := by
    unfold lessP
    by_cases q : ((y1, y2) : XID) = (c, d)
    · rw [if_pos q, q, lessI_irr, (eqI_iff _ _).2 rfl]; rfl
    · rw [if_neg q, Bool.eq_false_iff.2 fun q2 => q ((eqI_iff _ _).1 q2)]; simp
  clear h0 X Y Z
  by_cases q : ((y1, y2) : XID) = (c, d)
  · have hr2 := Lib.hid (show lessI (y3, y4) (g, h) = r by rw [← hr]; show _ = lessP ((y1, y2), (y3, y4)) ((c, d), (g, h)); rw [he, if_pos q])
    obtain ⟨rfl, rfl⟩ : y1 = c ∧ y2 = d := by simpa using q
    have hne := neId y1 y2 y1 y2 false (by simp)
    clear he hr q
    go_enter Try.func59, Try.ntmps59
    go_wp2_with fail
    refine (C2 _).mono ?_
    rintro e w1 ⟨rfl, hb⟩
    go_wp2
    go_ret
    exact ⟨congrArg (fun b => Ending.returned (.bool b)) hr2.out, B.out.trans (hb.mono B.out.size)⟩
  · have hr2 := Lib.hid (show lessI (y1, y2) (c, d) = r by rw [← hr]; show _ = lessP ((y1, y2), (y3, y4)) ((c, d), (g, h)); rw [he, if_neg q])
    have hne := neId y1 y2 c d true (by rw [show (y1 == c && y2 == d) = false from Bool.eq_false_iff.2 fun h => q (by simp at h; rw [h.1, h.2])]; rfl)
    clear he hr q
    go_enter Try.func59, Try.ntmps59
    go_wp2_with fail
    refine (C1 _).mono ?_
    rintro e w1 ⟨rfl, hb⟩
    go_wp2
    go_ret
    exact ⟨congrArg (fun b => Ending.returned (.bool b)) hr2.out, B.out.trans (hb.mono B.out.size)⟩
set_option maxRecDepth 100000 in
set_option maxHeartbeats 4000000 in
theorem search_any (g : Nat) (cb : Array Value) (eg : ∀ args w, (callFunc g args).run Try.prog w = .ok (.enter g args) w) (n k : Nat) (p : Nat → Bool) (w : World) (hn : n ≤ 1000000)
    (hf : ∀ i, i < n → ∀ W, Below w.heap.size w W → Calls Try.prog g (#[.int .i64 i] ++ cb) W fun e w' => e = .returned (.bool (p i)) ∧ Below W.heap.size W w')
    (hk : k ≤ n) (hlo : ∀ i, i < k → p i = false) (hhi : ∀ i, k ≤ i → i < n → p i = true) :
    Calls Try.prog 57 #[.int .i64 n, .func (.func g) #[] cb] w fun e w' => e = .returned (.int .i64 k) ∧ Below w.heap.size w w' := by
  have HF := Lib.hid hf
  have LO := Lib.hid hlo
  have HI := Lib.hid hhi
  clear hf hlo hhi
  go_enter Try.func57, Try.ntmps57
  go_wp2
  go_loopg [5, 6] n (fun kx s5 s6 wr => ∃ lo hi : Nat, s5 = .int .i64 lo ∧ s6 = .int .i64 hi ∧ lo ≤ k ∧ k ≤ hi ∧ hi ≤ n ∧ hi - lo ≤ kx ∧ Below w.heap.size w wr)
  case atStart => exact ⟨0, n, rfl, rfl, Nat.zero_le _, hk, Nat.le_refl _, by omega, Below.refl _ _⟩
  case round =>
    obtain ⟨lo, hi, rfl, rfl, hlk, hkh, hin, hg, hb⟩ := hrel
    have B := Lib.hid hb
    clear hb
    by_cases hlt : lo < hi
    · have hc := HF.out ((lo + hi) / 2) (by omega) wr B.out
      rw [show (((lo + hi) / 2 : Nat) : Int) = ((lo : Int) + (hi : Int)) / 2 by omega] at hc
      cases hp : p ((lo + hi) / 2) <;> rw [hp] at hc
      · have HP := Lib.hid hp
        have HK := Lib.hid (show (lo + hi) / 2 + 1 ≤ k from by
          rcases Nat.lt_or_ge ((lo + hi) / 2) k with h | h
          · exact h
          · have := HI.out _ h (by omega); rw [hp] at this; cases this)
        clear hp
        go_wp2_with (go_at_fn g; refine hc.mono ?_; rintro e w' ⟨rfl, hb2⟩)
        go_roundg (hi - ((lo + hi) / 2 + 1))
        case measure => omega
        case rel => exact ⟨(lo + hi) / 2 + 1, hi, by rw [show ((lo : Int) + (hi : Int)) / 2 + 1 = (((lo + hi) / 2 + 1 : Nat) : Int) by omega], rfl, HK.out, hkh, hin, Nat.le_refl _, B.out.trans (hb2.mono B.out.size)⟩
      · have HP := Lib.hid hp
        have HK := Lib.hid (show k ≤ (lo + hi) / 2 from by
          rcases Nat.lt_or_ge ((lo + hi) / 2) k with h | h
          · have := LO.out _ h; rw [hp] at this; cases this
          · exact h)
        clear hp
        go_wp2_with (go_at_fn g; refine hc.mono ?_; rintro e w' ⟨rfl, hb2⟩)
        go_roundg ((lo + hi) / 2 - lo)
        case measure => omega
        case rel => exact ⟨lo, (lo + hi) / 2, rfl, by rw [show ((lo : Int) + (hi : Int)) / 2 = (((lo + hi) / 2 : Nat) : Int) by omega], hlk, HK.out, by omega, Nat.le_refl _, B.out.trans (hb2.mono B.out.size)⟩
    · obtain rfl : hi = lo := by omega
      obtain rfl : hi = k := by omega
      go_wp2
      go_ret
      exact ⟨rfl, B.out⟩
theorem el_reN {W W1 : World} {v : Value} {l : List XEn} {ao : Option Addr} {n c k : Nat} {x : XEn} (h : RowN W v l) (hv : v = .slice ao n c) (hn : l.length = n) (hk : l[k]? = some x) (hb : Below W.heap.size W W1) :
    ∃ p : Addr, (∀ w, (Instr.indexAt 31 (.slice ao n c) (.int .i64 k)).run Try.prog w = .ok (.pointer (some p)) w) ∧
      (∀ d os, (grow (redrawn W1 d) os).cell? p = some (.int .i64 x.1)) ∧ (∀ d os, (grow (redrawn W1 d) os).cell? ⟨p.block, p.off + 1, none⟩ = some (.int .i64 x.2.1)) ∧
      (∀ d os, (grow (redrawn W1 d) os).cell? ⟨p.block, p.off + 2, none⟩ = some (.int .i64 x.2.2.1)) ∧ (∀ d os, (grow (redrawn W1 d) os).cell? ⟨p.block, p.off + 3, none⟩ = some (.int .i64 x.2.2.2.1)) ∧
      (∀ d os, (grow (redrawn W1 d) os).cell? ⟨p.block, p.off + 4, none⟩ = some (slv x.2.2.2.2.1)) ∧ (∀ d os, (grow (redrawn W1 d) os).cell? ⟨p.block, p.off + 5, none⟩ = some (.int .i64 x.2.2.2.2.2.1)) ∧
      (∀ d os, (grow (redrawn W1 d) os).cell? ⟨p.block, p.off + 6, none⟩ = some (.bool x.2.2.2.2.2.2)) := by
  obtain ⟨p, h1, h2⟩ := elN h hv hn hk
  obtain ⟨c0, c1, c2, c3, c4, c5, c6⟩ := h2 _ hb
  exact ⟨p, h1, cell_regrown c0, cell_regrown c1, cell_regrown c2, cell_regrown c3, cell_regrown c4, cell_regrown c5, cell_regrown c6⟩
theorem call_pl (args : Array Value) (w : World) : (callFunc 58 args).run Try.prog w = .ok (.enter 58 args) w := call_fn Try.func58 rfl rfl args w
theorem call_br (args : Array Value) (w : World) : (callFunc 62 args).run Try.prog w = .ok (.enter 62 args) w := call_fn Try.func62 rfl rfl args w
set_option maxRecDepth 100000 in
set_option maxHeartbeats 4000000 in
theorem pl1_any (i : Nat) (b1 b2 b3 : Nat) (ao : Option Addr) (n ac : Nat) (l : List XEn) (t s : XID) (y : XEn) (r : Bool) (w : World) (hv : RowN w (.slice ao n ac) l) (hn : l.length = n) (hy : l[i]? = some y) (hr : (!lessP (keyN y) (t, s)) = r)
    (h1 : Box w b1 #[.slice ao n ac] 31) (h2 : Box w b2 #[.int .i64 t.1, .int .i64 t.2] 23) (h3 : Box w b3 #[.int .i64 s.1, .int .i64 s.2] 23) :
    Calls Try.prog 58 #[.int .i64 i, .pointer (some ⟨b1, 0, none⟩), .pointer (some ⟨b2, 0, none⟩), .pointer (some ⟨b3, 0, none⟩)] w fun e w' => e = .returned (.bool r) ∧ Below w.heap.size w w' := by
  obtain ⟨p, ix, p0, p1, p2, p3, p4, p5, p6⟩ := el_reN hv rfl hn hy (Below.refl _ _)
  have a0 := cell_regrown (h1.cell 0)
  have b0 := cell_regrown (h2.cell 0)
  have b1' := cell_regrown (h2.cell 1)
  have c0 := cell_regrown (h3.cell 0)
  have c1 := cell_regrown (h3.cell 1)
  obtain ⟨q, hq⟩ : ∃ q, lessP (keyN y) (t, s) = q := ⟨_, rfl⟩
  have C : ∀ k os, Calls Try.prog 59 #[valN y, idv t, idv s] (grow (redrawn w k) os) fun e w'' => e = .returned (.bool q) ∧ ∃ p : Regrown, w'' = grow (redrawn w p.d) p.os := fun k os => Calls.regrown_of (ahead_any y t s q hq _)
  rw [hq] at hr
  have R := Lib.hid hr
  have BN := Lib.hid (fun dq osq => below_regrown w dq osq)
  obtain ⟨y1, y2, y3, y4, ⟨yo, yn, yc⟩, y6, y7⟩ := y
  obtain ⟨c, d⟩ := t
  obtain ⟨g, h⟩ := s
  simp only at p0 p1 p2 p3 p4 p5 p6 b0 b1' c0 c1 C
  clear hv hn hy hr hq h1 h2 h3
  go_enter Try.func58, Try.ntmps58
  go_wp2
  refine wp_region_quiet_below (by kernel_rfl) (by kernel_rfl) ?_
  repeat (go_big_quiet_step (first | (with_reducible exact C _ _) | exact call_ahead _ _))
  refine wpQuiet_nil ?_
  intro _ hw'
  obtain ⟨⟨dq, osq⟩, hw''⟩ := hw'
  subst hw''
  go_wp2
  go_ret
  exact ⟨congrArg (fun b => Ending.returned (.bool b)) R.out, BN.out _ _⟩
set_option maxRecDepth 100000 in
set_option maxHeartbeats 4000000 in
theorem br1_any (i : Nat) (b1 b2 : Nat) (ao : Option Addr) (n ac : Nat) (l : List XEn) (t : XID) (y : XEn) (r : Bool) (w : World) (hv : RowN w (.slice ao n ac) l) (hn : l.length = n) (hy : l[i]? = some y) (hr : (!lessI (y.1, y.2.1) t) = r)
    (h1 : Box w b1 #[.slice ao n ac] 31) (h2 : Box w b2 #[.int .i64 t.1, .int .i64 t.2] 23) :
    Calls Try.prog 62 #[.int .i64 i, .pointer (some ⟨b1, 0, none⟩), .pointer (some ⟨b2, 0, none⟩)] w fun e w' => e = .returned (.bool r) ∧ Below w.heap.size w w' := by
  obtain ⟨p, ix, p0, p1, p2, p3, p4, p5, p6⟩ := el_reN hv rfl hn hy (Below.refl _ _)
  have a0 := cell_regrown (h1.cell 0)
  have b0 := cell_regrown (h2.cell 0)
  have b1' := cell_regrown (h2.cell 1)
  have C : ∀ k os, Calls Try.prog 63 #[idv (y.1, y.2.1), idv t] (grow (redrawn w k) os) fun e w'' => e = .returned (.bool (lessI (y.1, y.2.1) t)) ∧ ∃ p : Regrown, w'' = grow (redrawn w p.d) p.os := fun k os => Calls.regrown_of (aless_any (y.1, y.2.1) t _)
  generalize lessI (y.1, y.2.1) t = q at *
  have R := Lib.hid hr
  have BN := Lib.hid (fun dq osq => below_regrown w dq osq)
  obtain ⟨y1, y2, y3, y4, ⟨yo, yn, yc⟩, y6, y7⟩ := y
  obtain ⟨c, d⟩ := t
  simp only at p0 p1 p2 p3 p4 p5 p6 b0 b1' C
  clear hv hn hy hr h1 h2 p2 p3 p4 p5 p6
  go_enter Try.func62, Try.ntmps62
  go_wp2
  refine wp_region_quiet_below (by kernel_rfl) (by kernel_rfl) ?_
  repeat (go_big_quiet_step (first | (with_reducible exact C _ _) | exact call_less _ _))
  refine wpQuiet_nil ?_
  intro _ hw'
  obtain ⟨⟨dq, osq⟩, hw''⟩ := hw'
  subst hw''
  go_wp2
  go_ret
  exact ⟨congrArg (fun b => Ending.returned (.bool b)) R.out, BN.out _ _⟩
end Go.Proofs.Ytncogjpmboglhaa.Sb
