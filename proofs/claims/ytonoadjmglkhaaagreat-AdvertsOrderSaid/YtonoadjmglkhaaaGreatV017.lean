/-
  slices.BinarySearchFunc over IDs, as package adverts calls it. Condition: they rise; at most 900 of them.
  slices.BinarySearchFunc over advertisements, as package adverts calls it. Condition: they rise; at most 900 of them.
  slices.Insert of one ID into a row of one's own, as package adverts calls it. Condition: at most 900 of them.
-/
import Derived.Test.YtonoadjmglkhaaaGreatV016
import Derived.Deep.LoopGhost
import Derived.Laws.Externs
import Derived.Test.YtonoadjmglkhaaaGreatV008
import Derived.Lib.Hide
import Derived.Lib.QuietBelow
import Derived.BigQuiet
namespace Go.Proofs.YtonoadjmglkhaaaGreat.Av
open Go.RowKit Go.Sort Go.Proofs.YtonoadjmglkhaaaGreat Go.Proofs.YtonoadjmglkhaaaGreat.Rw Go.Proofs.YtonoadjmglkhaaaGreat.Nm Go.Proofs.YtonoadjmglkhaaaGreat.Pr Go.Proofs.YtonoadjmglkhaaaGreat.Bk

abbrev keyJ (x : XID) : XID := x
theorem el_reJ {W W1 : World} {v : Value} {l : List XID} {ao : Option Addr} {n c k : Nat} {x : XID} (h : RowJ W v l) (hv : v = .slice ao n c) (hn : l.length = n) (hk : l[k]? = some x) (hb : Below W.heap.size W W1) :
    ∃ p : Addr, (∀ w, (Instr.indexAt 25 (.slice ao n c) (.int .i64 k)).run Tryz.prog w = .ok (.pointer (some p)) w) ∧
      (∀ d os, (grow (redrawn W1 d) os).cell? p = some (.int .i64 x.1)) ∧ (∀ d os, (grow (redrawn W1 d) os).cell? ⟨p.block, p.off + 1, none⟩ = some (.int .i64 x.2)) := by
  obtain ⟨p, h1, h2⟩ := elJ h hv hn hk
  obtain ⟨c0, c1⟩ := h2 _ hb
  exact ⟨p, h1, cell_regrown c0, cell_regrown c1⟩
theorem box_reJ {W : World} {b : Nat} {c : XID} (h : Box W b #[.int .i64 c.1, .int .i64 c.2] 37) : (∀ d os, (grow (redrawn W d) os).cell? ⟨b, 0, none⟩ = some (.int .i64 c.1)) ∧ (∀ d os, (grow (redrawn W d) os).cell? ⟨b, 1, none⟩ = some (.int .i64 c.2)) :=
  ⟨cell_regrown (h.cell 0), cell_regrown (h.cell 1)⟩
theorem call_ordJ (args : Array Value) (w : World) : (callFunc 34 args).run Tryz.prog w = .ok (.enter 34 args) w := call_fn Tryz.func34 rfl rfl args w
theorem ord_reJ (c d : XID) (r : Int) (hr : cmpJ c d = r) (w : World) (k : Nat) (os : Array Obj) :
    Calls Tryz.prog 34 #[idv c, idv d] (grow (redrawn w k) os) fun e w'' => e = .returned (.int .i64 r) ∧ ∃ p : Regrown, w'' = grow (redrawn w p.d) p.os := by
  subst hr
  exact Calls.regrown_of (byID_any c d _)

set_option maxRecDepth 100000 in
set_option maxHeartbeats 8000000 in
theorem bsJ_any (v : Value) (l : List XID) (c : XID) (w : World) (hv : RowJ w v l) (hr : RiseK keyJ l) (hl : l.length ≤ 900) :
    Calls Tryz.prog 86 #[v, idv c, .func (.func 34) #[] #[]] w fun e w' => e = .returned (.tuple #[.int .i64 (placeK keyJ l c), .bool (thereK keyJ l c)]) ∧ Below w.heap.size w w' := by
  have HL := Lib.hid hv
  have HR := Lib.hid hr
  have BX := Lib.hid (box_new w #[.int .i64 c.1, .int .i64 c.2] 37)
  have B1 := Lib.hid ((Below.refl w.heap.size w).alloc (Nat.le_refl _) (.cells #[.int .i64 c.1, .int .i64 c.2] 37))
  obtain ⟨ao, ac, rfl⟩ := hv.len
  obtain ⟨n, hn⟩ : ∃ n, n = l.length := ⟨_, rfl⟩
  rw [← hn] at HL hl ⊢
  have HN := Lib.hid hn
  obtain ⟨cnt, hc⟩ : ∃ k, k = placeK keyJ l c := ⟨_, rfl⟩
  obtain ⟨th, ht⟩ : ∃ k, k = thereK keyJ l c := ⟨_, rfl⟩
  rw [← hc, ← ht]
  have HC := Lib.hid hc
  have HT := Lib.hid ht
  clear hv hr hn hc ht
  obtain ⟨c1, c2⟩ := c
  go_enter Tryz.func86, Tryz.ntmps86
  go_wp2
  generalize w.alloc (.cells #[.int .i64 c1, .int .i64 c2] 37) = w1 at *
  go_loopg [9, 10] n (fun kx s9 s10 wr => ∃ lo hi : Nat, s9 = .int .i64 lo ∧ s10 = .int .i64 hi ∧ lo ≤ hi ∧ hi ≤ n ∧ hi - lo ≤ kx ∧ Below w.heap.size w wr ∧ Box wr w.heap.size #[.int .i64 c1, .int .i64 c2] 37 ∧
    (∀ (t : Nat) (y : XID), t < lo → l[t]? = some y → lessI y (c1, c2) = true) ∧ (∀ (t : Nat) (y : XID), hi ≤ t → l[t]? = some y → lessI y (c1, c2) = false))
  case atStart => exact ⟨0, n, rfl, rfl, Nat.zero_le _, Nat.le_refl _, by omega, B1.out, BX.out, fun t y h => by omega, fun t y h1 h2 => by have := (List.getElem?_eq_some_iff.1 h2).1; have := HN.out; omega⟩
  case round =>
    clear B1 BX
    obtain ⟨lo, hi, rfl, rfl, hlh, hin, hg, hb, hx, ha, hz⟩ := hrel
    have B := Lib.hid hb
    have X := Lib.hid hx
    have AL := Lib.hid ha
    have ZL := Lib.hid hz
    clear hb hx ha hz
    by_cases hlt : lo < hi
    · obtain ⟨y, hy⟩ : ∃ y, l[(lo + hi) / 2]? = some y := ⟨_, List.getElem?_eq_getElem (by have := HN.out; omega)⟩
      obtain ⟨p, ix, p0, p1⟩ := el_reJ HL.out rfl HN.out.symm hy B.out
      obtain ⟨b0, b1⟩ := box_reJ (c := (c1, c2)) X.out
      obtain ⟨r, hr⟩ : ∃ r, cmpJ y (c1, c2) = r := ⟨_, rfl⟩
      have C := ord_reJ y (c1, c2) r hr wr
      have LE := Lib.hid (show decide (r < 0) = lessI y (c1, c2) by rw [← hr]; exact cmpJ_less _ _)
      have Y := Lib.hid hy
      clear hy hr
      have e23 : ((lo : Int) + (hi : Int)) / 2 = (((lo + hi) / 2 : Nat) : Int) := by omega
      generalize hm : (lo + hi) / 2 = m at *
      have BN := Lib.hid (fun dq osq => B.out.trans ((below_regrown wr dq osq).mono B.out.size))
      have XN := Lib.hid (fun dq osq => X.out.on (below_regrown wr dq osq))
      obtain ⟨y1, y2⟩ := y
      simp only at p0 p1 b0 b1 C
      by_cases hneg : r < 0
      · have d0 : decide (r < 0) = true := by simpa using hneg
        have LT := Lib.hid (show lessI (y1, y2) (c1, c2) = true by rw [← LE.out]; exact d0)
        go_wp2
        refine wp_region_quiet_below (by kernel_rfl) (by kernel_rfl) ?_
        repeat (go_big_quiet_step (first | (with_reducible exact C _ _) | exact call_ordJ _ _))
        refine wpQuiet_nil ?_
        intro _ hw'
        obtain ⟨⟨dq, osq⟩, hw''⟩ := hw'
        subst hw''
        clear ix p0 p1 b0 b1 C
        go_wp2
        go_roundg (hi - (m + 1))
        case measure => omega
        case rel => exact ⟨m + 1, hi, by go_num, rfl, by omega, hin, Nat.le_refl _, BN.out _ _, XN.out _ _, fun t z h1 h2 => by
          rcases Nat.lt_or_ge t m with h3 | h3
          · exact lessI_trans (riseK_lt HR.out (by omega) h2 Y.out) LT.out
          · obtain rfl : t = m := by omega
            rw [Y.out] at h2
            rw [← Option.some.inj h2]
            exact LT.out, ZL.out⟩
      · have d0 : decide (r < 0) = false := by simpa using hneg
        have LT := Lib.hid (show lessI (y1, y2) (c1, c2) = false by rw [← LE.out]; exact d0)
        go_wp2
        refine wp_region_quiet_below (by kernel_rfl) (by kernel_rfl) ?_
        repeat (go_big_quiet_step (first | (with_reducible exact C _ _) | exact call_ordJ _ _))
        refine wpQuiet_nil ?_
        intro _ hw'
        obtain ⟨⟨dq, osq⟩, hw''⟩ := hw'
        subst hw''
        clear ix p0 p1 b0 b1 C
        go_wp2
        go_roundg (m - lo)
        case measure => omega
        case rel => exact ⟨lo, m, rfl, rfl, by omega, by omega, Nat.le_refl _, BN.out _ _, XN.out _ _, AL.out, fun t z h1 h2 => by
          cases h : lessI z (c1, c2)
          · rfl
          · rcases Nat.lt_or_ge m t with h3 | h3
            · have := lessI_trans (riseK_lt HR.out h3 Y.out h2) h
              rw [LT.out] at this
              cases this
            · obtain rfl : t = m := by omega
              rw [Y.out] at h2
              rw [← Option.some.inj h2, LT.out] at h
              cases h⟩
    · obtain rfl : hi = lo := by omega
      have E := Lib.hid (placeK_is keyJ l (c1, c2) hi AL.out (by
        rcases Nat.lt_or_ge hi n with h | h
        · exact Or.inr ⟨_, List.getElem?_eq_getElem (by have := HN.out; omega), ZL.out hi _ (Nat.le_refl _) (List.getElem?_eq_getElem (by have := HN.out; omega))⟩
        · exact Or.inl (by have := HN.out; omega)))
      by_cases hn : hi < n
      · obtain ⟨y, hy⟩ : ∃ y, l[hi]? = some y := ⟨_, List.getElem?_eq_getElem (by have := HN.out; omega)⟩
        obtain ⟨p, ix, p0, p1⟩ := el_reJ HL.out rfl HN.out.symm hy B.out
        obtain ⟨b0, b1⟩ := box_reJ (c := (c1, c2)) X.out
        obtain ⟨r, hr⟩ : ∃ r, cmpJ y (c1, c2) = r := ⟨_, rfl⟩
        have C := ord_reJ y (c1, c2) r hr wr
        have TH := Lib.hid (show th = (r == 0) by
          rw [HT.out, thereK, E.out, hy, Bool.eq_iff_iff, beq_iff_eq, ← hr, cmpJ_zero, decide_eq_true_eq])
        have BN := Lib.hid (fun dq osq => B.out.trans ((below_regrown wr dq osq).mono B.out.size))
        have CE := Lib.hid (show cnt = hi by rw [HC.out, E.out])
        clear hy hr hlt
        have g4 : decide ((hi : Int) < (n : Int)) = true := by simp; omega
        obtain ⟨y1, y2⟩ := y
        simp only at p0 p1 b0 b1 C
        go_wp2
        refine wp_region_quiet_below (by kernel_rfl) (by kernel_rfl) ?_
        repeat (go_big_quiet_step (first | (with_reducible exact C _ _) | exact call_ordJ _ _))
        refine wpQuiet_nil ?_
        intro _ hw'
        obtain ⟨⟨dq, osq⟩, hw''⟩ := hw'
        subst hw''
        clear ix p0 p1 b0 b1 C
        go_wp2
        go_ret2
        exact ⟨by rw [TH.out, CE.out]; rfl, BN.out _ _⟩
      · have TH := Lib.hid (show th = false by
          rw [HT.out, thereK, E.out, List.getElem?_eq_none (by have := HN.out; omega)])
        have CE := Lib.hid (show cnt = hi by rw [HC.out, E.out])
        have BN := Lib.hid (fun dq osq => B.out.trans ((below_regrown wr dq osq).mono B.out.size))
        have g4 : decide ((hi : Int) < (n : Int)) = false := by simp; omega
        clear hlt
        go_wp2
        refine wp_region_quiet_below (by kernel_rfl) (by kernel_rfl) ?_
        repeat (go_big_quiet_step (fail))
        refine wpQuiet_nil ?_
        intro _ hw'
        obtain ⟨⟨dq, osq⟩, hw''⟩ := hw'
        subst hw''
        go_wp2
        go_ret2
        exact ⟨by rw [TH.out, CE.out]; rfl, BN.out _ _⟩
end Go.Proofs.YtonoadjmglkhaaaGreat.Av

namespace Go.Proofs.YtonoadjmglkhaaaGreat.Av
open Go.RowKit Go.Sort Go.Proofs.YtonoadjmglkhaaaGreat Go.Proofs.YtonoadjmglkhaaaGreat.Rw Go.Proofs.YtonoadjmglkhaaaGreat.Nm Go.Proofs.YtonoadjmglkhaaaGreat.Pr Go.Proofs.YtonoadjmglkhaaaGreat.Bk

abbrev keyD (x : XAd) : XID := (x.1, x.2.1)
theorem el_reD {W W1 : World} {v : Value} {l : List XAd} {ao : Option Addr} {n c k : Nat} {x : XAd} (h : RowD W v l) (hv : v = .slice ao n c) (hn : l.length = n) (hk : l[k]? = some x) (hb : Below W.heap.size W W1) :
    ∃ p : Addr, (∀ w, (Instr.indexAt 24 (.slice ao n c) (.int .i64 k)).run Tryz.prog w = .ok (.pointer (some p)) w) ∧
      (∀ d os, (grow (redrawn W1 d) os).cell? p = some (.int .i64 x.1)) ∧ (∀ d os, (grow (redrawn W1 d) os).cell? ⟨p.block, p.off + 1, none⟩ = some (.int .i64 x.2.1)) ∧ (∀ d os, (grow (redrawn W1 d) os).cell? ⟨p.block, p.off + 2, none⟩ = some (slv x.2.2.1)) ∧ (∀ d os, (grow (redrawn W1 d) os).cell? ⟨p.block, p.off + 3, none⟩ = some (.int .i64 x.2.2.2)) := by
  obtain ⟨p, h1, h2⟩ := elD h hv hn hk
  obtain ⟨c0, c1, c2, c3⟩ := h2 _ hb
  exact ⟨p, h1, cell_regrown c0, cell_regrown c1, cell_regrown c2, cell_regrown c3⟩
theorem box_reD {W : World} {b : Nat} {c : XAd} (h : Box W b #[.int .i64 c.1, .int .i64 c.2.1, slv c.2.2.1, .int .i64 c.2.2.2] 42) : (∀ d os, (grow (redrawn W d) os).cell? ⟨b, 0, none⟩ = some (.int .i64 c.1)) ∧ (∀ d os, (grow (redrawn W d) os).cell? ⟨b, 1, none⟩ = some (.int .i64 c.2.1)) ∧ (∀ d os, (grow (redrawn W d) os).cell? ⟨b, 2, none⟩ = some (slv c.2.2.1)) ∧ (∀ d os, (grow (redrawn W d) os).cell? ⟨b, 3, none⟩ = some (.int .i64 c.2.2.2)) :=
  ⟨cell_regrown (h.cell 0), cell_regrown (h.cell 1), cell_regrown (h.cell 2), cell_regrown (h.cell 3)⟩
theorem call_ordD (args : Array Value) (w : World) : (callFunc 32 args).run Tryz.prog w = .ok (.enter 32 args) w := call_fn Tryz.func32 rfl rfl args w
theorem ord_reD (c d : XAd) (r : Int) (hr : cmpJ (c.1, c.2.1) (d.1, d.2.1) = r) (w : World) (k : Nat) (os : Array Obj) :
    Calls Tryz.prog 32 #[valD c, valD d] (grow (redrawn w k) os) fun e w'' => e = .returned (.int .i64 r) ∧ ∃ p : Regrown, w'' = grow (redrawn w p.d) p.os := by
  subst hr
  exact Calls.regrown_of (inAdv_any c d _)

set_option maxRecDepth 100000 in
set_option maxHeartbeats 8000000 in
theorem bsD_any (v : Value) (l : List XAd) (c : XAd) (w : World) (hv : RowD w v l) (hr : RiseK keyD l) (hl : l.length ≤ 900) :
    Calls Tryz.prog 84 #[v, valD c, .func (.func 32) #[] #[]] w fun e w' => e = .returned (.tuple #[.int .i64 (placeK keyD l (c.1, c.2.1)), .bool (thereK keyD l (c.1, c.2.1))]) ∧ Below w.heap.size w w' := by
  have HL := Lib.hid hv
  have HR := Lib.hid hr
  have BX := Lib.hid (box_new w #[.int .i64 c.1, .int .i64 c.2.1, slv c.2.2.1, .int .i64 c.2.2.2] 42)
  have B1 := Lib.hid ((Below.refl w.heap.size w).alloc (Nat.le_refl _) (.cells #[.int .i64 c.1, .int .i64 c.2.1, slv c.2.2.1, .int .i64 c.2.2.2] 42))
  obtain ⟨ao, ac, rfl⟩ := hv.len
  obtain ⟨n, hn⟩ : ∃ n, n = l.length := ⟨_, rfl⟩
  rw [← hn] at HL hl ⊢
  have HN := Lib.hid hn
  obtain ⟨cnt, hc⟩ : ∃ k, k = placeK keyD l (c.1, c.2.1) := ⟨_, rfl⟩
  obtain ⟨th, ht⟩ : ∃ k, k = thereK keyD l (c.1, c.2.1) := ⟨_, rfl⟩
  rw [← hc, ← ht]
  have HC := Lib.hid hc
  have HT := Lib.hid ht
  clear hv hr hn hc ht
  obtain ⟨c1, c2, ⟨c3, c4, c5⟩, c6⟩ := c
  go_enter Tryz.func84, Tryz.ntmps84
  go_wp2
  generalize w.alloc (.cells #[.int .i64 c1, .int .i64 c2, .slice c3 c4 c5, .int .i64 c6] 42) = w1 at *
  go_loopg [9, 10] n (fun kx s9 s10 wr => ∃ lo hi : Nat, s9 = .int .i64 lo ∧ s10 = .int .i64 hi ∧ lo ≤ hi ∧ hi ≤ n ∧ hi - lo ≤ kx ∧ Below w.heap.size w wr ∧ Box wr w.heap.size #[.int .i64 c1, .int .i64 c2, .slice c3 c4 c5, .int .i64 c6] 42 ∧
    (∀ (t : Nat) (y : XAd), t < lo → l[t]? = some y → lessI (y.1, y.2.1) (c1, c2) = true) ∧ (∀ (t : Nat) (y : XAd), hi ≤ t → l[t]? = some y → lessI (y.1, y.2.1) (c1, c2) = false))
  case atStart => exact ⟨0, n, rfl, rfl, Nat.zero_le _, Nat.le_refl _, by omega, B1.out, BX.out, fun t y h => by omega, fun t y h1 h2 => by have := (List.getElem?_eq_some_iff.1 h2).1; have := HN.out; omega⟩
  case round =>
    clear B1 BX
    obtain ⟨lo, hi, rfl, rfl, hlh, hin, hg, hb, hx, ha, hz⟩ := hrel
    have B := Lib.hid hb
    have X := Lib.hid hx
    have AL := Lib.hid ha
    have ZL := Lib.hid hz
    clear hb hx ha hz
    by_cases hlt : lo < hi
    · obtain ⟨y, hy⟩ : ∃ y, l[(lo + hi) / 2]? = some y := ⟨_, List.getElem?_eq_getElem (by have := HN.out; omega)⟩
      obtain ⟨p, ix, p0, p1, p2, p3⟩ := el_reD HL.out rfl HN.out.symm hy B.out
      obtain ⟨b0, b1, b2, b3⟩ := box_reD (c := (c1, c2, (c3, c4, c5), c6)) X.out
      obtain ⟨r, hr⟩ : ∃ r, cmpJ (y.1, y.2.1) (c1, c2) = r := ⟨_, rfl⟩
      have C := ord_reD y (c1, c2, (c3, c4, c5), c6) r hr wr
      have LE := Lib.hid (show decide (r < 0) = lessI (y.1, y.2.1) (c1, c2) by rw [← hr]; exact cmpJ_less _ _)
      have Y := Lib.hid hy
      clear hy hr
      have e23 : ((lo : Int) + (hi : Int)) / 2 = (((lo + hi) / 2 : Nat) : Int) := by omega
      generalize hm : (lo + hi) / 2 = m at *
      have BN := Lib.hid (fun dq osq => B.out.trans ((below_regrown wr dq osq).mono B.out.size))
      have XN := Lib.hid (fun dq osq => X.out.on (below_regrown wr dq osq))
      obtain ⟨y1, y2, ⟨yo, yn, yc⟩, y4⟩ := y
      simp only at p0 p1 p2 p3 b0 b1 b2 b3 C
      by_cases hneg : r < 0
      · have d0 : decide (r < 0) = true := by simpa using hneg
        have LT := Lib.hid (show lessI (y1, y2) (c1, c2) = true by rw [← LE.out]; exact d0)
        go_wp2
        refine wp_region_quiet_below (by kernel_rfl) (by kernel_rfl) ?_
        repeat (go_big_quiet_step (first | (with_reducible exact C _ _) | exact call_ordD _ _))
        refine wpQuiet_nil ?_
        intro _ hw'
        obtain ⟨⟨dq, osq⟩, hw''⟩ := hw'
        subst hw''
        clear ix p0 p1 p2 p3 b0 b1 b2 b3 C
        go_wp2
        go_roundg (hi - (m + 1))
        case measure => omega
        case rel => exact ⟨m + 1, hi, by go_num, rfl, by omega, hin, Nat.le_refl _, BN.out _ _, XN.out _ _, fun t z h1 h2 => by
          rcases Nat.lt_or_ge t m with h3 | h3
          · exact lessI_trans (riseK_lt HR.out (by omega) h2 Y.out) LT.out
          · obtain rfl : t = m := by omega
            rw [Y.out] at h2
            rw [← Option.some.inj h2]
            exact LT.out, ZL.out⟩
      · have d0 : decide (r < 0) = false := by simpa using hneg
        have LT := Lib.hid (show lessI (y1, y2) (c1, c2) = false by rw [← LE.out]; exact d0)
        go_wp2
        refine wp_region_quiet_below (by kernel_rfl) (by kernel_rfl) ?_
        repeat (go_big_quiet_step (first | (with_reducible exact C _ _) | exact call_ordD _ _))
        refine wpQuiet_nil ?_
        intro _ hw'
        obtain ⟨⟨dq, osq⟩, hw''⟩ := hw'
        subst hw''
        clear ix p0 p1 p2 p3 b0 b1 b2 b3 C
        go_wp2
        go_roundg (m - lo)
        case measure => omega
        case rel => exact ⟨lo, m, rfl, rfl, by omega, by omega, Nat.le_refl _, BN.out _ _, XN.out _ _, AL.out, fun t z h1 h2 => by
          cases h : lessI (z.1, z.2.1) (c1, c2)
          · rfl
          · rcases Nat.lt_or_ge m t with h3 | h3
            · have := lessI_trans (riseK_lt HR.out h3 Y.out h2) h
              rw [LT.out] at this
              cases this
            · obtain rfl : t = m := by omega
              rw [Y.out] at h2
              rw [← Option.some.inj h2, LT.out] at h
              cases h⟩
    · obtain rfl : hi = lo := by omega
      have E := Lib.hid (placeK_is keyD l (c1, c2) hi AL.out (by
        rcases Nat.lt_or_ge hi n with h | h
        · exact Or.inr ⟨_, List.getElem?_eq_getElem (by have := HN.out; omega), ZL.out hi _ (Nat.le_refl _) (List.getElem?_eq_getElem (by have := HN.out; omega))⟩
        · exact Or.inl (by have := HN.out; omega)))
      by_cases hn : hi < n
      · obtain ⟨y, hy⟩ : ∃ y, l[hi]? = some y := ⟨_, List.getElem?_eq_getElem (by have := HN.out; omega)⟩
        obtain ⟨p, ix, p0, p1, p2, p3⟩ := el_reD HL.out rfl HN.out.symm hy B.out
        obtain ⟨b0, b1, b2, b3⟩ := box_reD (c := (c1, c2, (c3, c4, c5), c6)) X.out
        obtain ⟨r, hr⟩ : ∃ r, cmpJ (y.1, y.2.1) (c1, c2) = r := ⟨_, rfl⟩
        have C := ord_reD y (c1, c2, (c3, c4, c5), c6) r hr wr
        have TH := Lib.hid (show th = (r == 0) by
          rw [HT.out, thereK, E.out, hy, Bool.eq_iff_iff, beq_iff_eq, ← hr, cmpJ_zero, decide_eq_true_eq])
        have BN := Lib.hid (fun dq osq => B.out.trans ((below_regrown wr dq osq).mono B.out.size))
        have CE := Lib.hid (show cnt = hi by rw [HC.out, E.out])
        clear hy hr hlt
        have g4 : decide ((hi : Int) < (n : Int)) = true := by simp; omega
        obtain ⟨y1, y2, ⟨yo, yn, yc⟩, y4⟩ := y
        simp only at p0 p1 p2 p3 b0 b1 b2 b3 C
        go_wp2
        refine wp_region_quiet_below (by kernel_rfl) (by kernel_rfl) ?_
        repeat (go_big_quiet_step (first | (with_reducible exact C _ _) | exact call_ordD _ _))
        refine wpQuiet_nil ?_
        intro _ hw'
        obtain ⟨⟨dq, osq⟩, hw''⟩ := hw'
        subst hw''
        clear ix p0 p1 p2 p3 b0 b1 b2 b3 C
        go_wp2
        go_ret2
        exact ⟨by rw [TH.out, CE.out]; rfl, BN.out _ _⟩
      · have TH := Lib.hid (show th = false by
          rw [HT.out, thereK, E.out, List.getElem?_eq_none (by have := HN.out; omega)])
        have CE := Lib.hid (show cnt = hi by rw [HC.out, E.out])
        have BN := Lib.hid (fun dq osq => B.out.trans ((below_regrown wr dq osq).mono B.out.size))
        have g4 : decide ((hi : Int) < (n : Int)) = false := by simp; omega
        clear hlt
        go_wp2
        refine wp_region_quiet_below (by kernel_rfl) (by kernel_rfl) ?_
        repeat (go_big_quiet_step (fail))
        refine wpQuiet_nil ?_
        intro _ hw'
        obtain ⟨⟨dq, osq⟩, hw''⟩ := hw'
        subst hw''
        go_wp2
        go_ret2
        exact ⟨by rw [TH.out, CE.out]; rfl, BN.out _ _⟩
end Go.Proofs.YtonoadjmglkhaaaGreat.Av

namespace Go.Proofs.YtonoadjmglkhaaaGreat.Av
open Go.RowKit Go.Proofs.YtonoadjmglkhaaaGreat Go.Proofs.YtonoadjmglkhaaaGreat.Rw Go.Proofs.YtonoadjmglkhaaaGreat.Nm Go.Proofs.YtonoadjmglkhaaaGreat.Pr Go.Proofs.YtonoadjmglkhaaaGreat.Bk

theorem row_boxJ {W : World} {b : Nat} {c : XID} (h : Box W b (cellsJ c).toArray 37) : RowJ W (.slice (some ⟨b, 0, none⟩) 1 1) [c] :=
  Or.inr ⟨⟨b, 0, none⟩, 1, rfl, by simp, by decide, box_one h (by simp [EJ])⟩
def InsQJ (B : Nat) (l : List XID) (k : Nat) (c : XID) (vv : Value) (W : World) (e : Ending) (w' : World) : Prop := ∃ v', e = .returned v' ∧ OwnJ w' B v' (l.take k ++ c :: l.drop k) ∧ Below B W w' ∧ (∀ j, j < W.heap.size → some j ≠ vv.ownBlock → w'.heap[j]? = W.heap[j]?)
set_option maxRecDepth 100000 in
set_option maxHeartbeats 4000000 in
theorem insert_endJ (B : Nat) (v : Value) (l : List XID) (c : XID) (b : Nat) (W : World) (ho : OwnJ W B v l) (hx : Box W b (cellsJ c).toArray 37) (hl : l.length ≤ 900) (hB : B ≤ W.heap.size) :
    Calls Tryz.prog 87 #[v, .int .i64 (l.length : Nat), .slice (some ⟨b, 0, none⟩) 1 1] W (InsQJ B l l.length c v W) := by
  obtain ⟨v', w', hr, ho2, hg⟩ := app_row okJ B ho (row_boxJ hx) (by omega) (by simp) hB 25
  have hr : (Builtin.append_ #[25, 25] 25 #[v, .slice (some ⟨b, 0, none⟩) 1 1]).run Tryz.prog W = .ok v' w' := hr
  have Q := Lib.hid (show InsQJ B l l.length c v W (.returned v') w' from ⟨v', rfl, by rw [List.take_of_length_le (Nat.le_refl _), List.drop_of_length_le (Nat.le_refl _)]; exact ho2, (Below.refl B W).grown hg hB (fun j hj => (ho.lt j hj).1), fun j hj hne => hg.block j hj hne⟩)
  obtain ⟨sx, hs, _⟩ := row_hi okJ (Row.of_own ho) l.length (Nat.le_refl _)
  have hs : ∀ w, (Instr.sliceAt 25 v (some (.int .i64 l.length)) none none).run Tryz.prog w = .ok sx w := hs
  obtain ⟨ao, ac, rfl⟩ := (Row.of_own ho).len
  clear ho ho2 hg
  generalize hn : l.length = n at *
  clear hn
  go_enter Tryz.func87, Tryz.ntmps87
  go_wp2_with (first | (at_builtin; refine wpList_append_run rfl _ _ 25 rfl rfl rfl hr ?_) | fail)
  go_ret
  exact Q.out

theorem no_overJ (w : World) (g b k la lb cb : Nat) (cur cs : Array Value) (hb : Box w b cs 37) (hg : Box w g cur 37) (hne : b ≠ g) (h0 : 0 < cur.size) : (callFunc 118 #[.slice (some ⟨b, 0, none⟩) la 1, .slice (some ⟨g, k, none⟩) lb cb]).run Tryz.prog w = .ok (.value (.bool false)) w := by
  rw [run_callFunc_extern Tryz.func118 (by kernel_rfl) (by kernel_rfl) (by kernel_rfl) (e := Extern.SlicesOverlaps.overlaps #[25, 25] #[4]) (by kernel_rfl),
    Lib.run_overlaps_apart w 25 4 37 Tryz.underlying25 2 Tryz.sizeOf37 ⟨b, 0, none⟩ ⟨g, k, none⟩ la 1 lb cb hne 37 37 cs.size cur.size hb.shape hg.shape (by omega) (hb.fr 0) (hb.fr _)]
  rfl
set_option maxRecDepth 100000 in
set_option maxHeartbeats 4000000 in
theorem insert_shiftJ (B g n cap : Nat) (cur : Array Value) (l : List XID) (k : Nat) (c : XID) (b : Nat) (W : World) (hn : n = l.length) (hBg : B ≤ g) (hg : Box W g cur 37) (hcm : cap ≤ maxLen) (hsz : cur.size = cap * 2) (ht : cur.toList.take (n * 2) = flat EJ l) (hx : Box W b (cellsJ c).toArray 37) (hne : b ≠ g) (hk : k < n) (hroom : n + 1 ≤ cap) (hl : n ≤ 900) :
    Calls Tryz.prog 87 #[.slice (some ⟨g, 0, none⟩) n cap, .int .i64 k, .slice (some ⟨b, 0, none⟩) 1 1] W (InsQJ B l k c (.slice (some ⟨g, 0, none⟩) n cap) W) := by
  obtain ⟨R1, R2, r1, r2, ow⟩ := shift_mid (E := EJ) (l := l) (k := k) (cap := cap) (cur := cur) (cs := (cellsJ c).toArray) (c := c) okJ (by omega) (by omega) hsz (by rw [← hn]; exact ht) g b hne
  have hov := fun lb cb => no_overJ W g b ((k + 1) * 2) 1 lb cb cur (cellsJ c).toArray hx hg hne (by omega)
  have s0 := cut_hi (E := EJ) okJ g k n cap (by omega) (by omega)
  have s1 := slice_lo (E := EJ) okJ ⟨g, 0, none⟩ (n + 1) n cap (by omega)
  have s2 := cut_hi (E := EJ) okJ g (k + 1) (n + 1) cap (by omega) (by omega)
  have s3 := cut_hi (E := EJ) okJ g k (n + 1) cap (by omega) (by omega)
  have q1 := r1 W.drew 3 (n + 1 - (k + 1)) (cap - (k + 1)) (n + 1 - k) (cap - k) hg (by omega)
  have q2 := r2 (W.drew.setRow g R1) 3 (n + 1 - k) (cap - k) (Box.set (show Box W.drew g cur 37 from hg) R1) (Box.other (show Box W.drew b _ 37 from hx) hne R1) rfl (by omega)
  have Q := Lib.hid (show InsQJ B l k c (.slice (some ⟨g, 0, none⟩) n cap) W (.returned (.slice (some ⟨g, 0, none⟩) (n + 1) cap)) ((W.drew.setRow g R1).setRow g R2) from ⟨_, rfl, by rw [hn]; exact ow _ B hBg hcm (Box.set (Box.set (show Box W.drew g cur 37 from hg) R1) R2), below_setRow (below_setRow (Below.refl B W).drew hBg _) hBg _, fun j hj hne => (setRow_other _ g j _ (fun e => hne (by rw [e]; rfl))).trans (setRow_other _ g j _ (fun e => hne (by rw [e]; rfl)))⟩)
  clear r1 r2 ow hg ht hx hsz hBg hcm
  change ∀ w, (Instr.sliceAt 25 (.slice (some ⟨g, 0, none⟩) n cap) (some (.int .i64 k)) none none).run Tryz.prog w = .ok (.slice (some ⟨g, k * 2, none⟩) (n - k) (cap - k)) w at s0
  change ∀ w, (Instr.sliceAt 25 (.slice (some ⟨g, 0, none⟩) n cap) none (some (.int .i64 ((n : Int) + 1))) none).run Tryz.prog w = .ok (.slice (some ⟨g, 0, none⟩) (n + 1) cap) w at s1
  change ∀ w, (Instr.sliceAt 25 (.slice (some ⟨g, 0, none⟩) (n + 1) cap) (some (.int .i64 ((k : Int) + 1))) none none).run Tryz.prog w = .ok (.slice (some ⟨g, (k + 1) * 2, none⟩) (n + 1 - (k + 1)) (cap - (k + 1))) w at s2
  change ∀ w, (Instr.sliceAt 25 (.slice (some ⟨g, 0, none⟩) (n + 1) cap) (some (.int .i64 k)) none none).run Tryz.prog w = .ok (.slice (some ⟨g, k * 2, none⟩) (n + 1 - k) (cap - k)) w at s3
  have e1 : ((k : Int) == (n : Int)) = false := by rw [beq_eq_false_iff_ne]; omega
  have e2 : decide ((cap : Int) < (n : Int) + 1) = false := by simp; omega
  change (Builtin.copy_ #[25, 25] 3 #[.slice (some ⟨g, (k + 1) * 2, none⟩) (n + 1 - (k + 1)) (cap - (k + 1)), .slice (some ⟨g, k * 2, none⟩) (n + 1 - k) (cap - k)]).run Tryz.prog W.drew = .ok (.int .i64 ((l.length - k : Nat) : Int)) (W.drew.setRow g R1) at q1
  change (Builtin.copy_ #[25, 25] 3 #[.slice (some ⟨g, k * 2, none⟩) (n + 1 - k) (cap - k), .slice (some ⟨b, 0, none⟩) 1 1]).run Tryz.prog (W.drew.setRow g R1) = .ok (.int .i64 1) ((W.drew.setRow g R1).setRow g R2) at q2
  clear hn
  go_enter Tryz.func87, Tryz.ntmps87
  go_wp2_with (first | (simp only [hov]) | fail)
  clear hov s0 s1 s2 s3
  have hw1 : IntKind.i64.wrap ((k : Int) + 1) = (k : Int) + 1 := by rw [IntKind.wrap_i64]; omega
  have hb1 : (0 : Int) ≤ (k : Int) + 1 := by omega
  have hb0 : (k : Int) + 1 ≤ (n : Int) + 1 := by omega
  have htn : ((k : Int) + 1).toNat = k + 1 := by omega
  have hb2 : ¬ (cap = k + 1) := by omega
  have hb3 : (k : Int) ≤ (n : Int) + 1 := by omega
  have hb4 : ¬ (cap = k) := by omega
  have h81 : n + 1 - (k + 1) = n - k := by omega
  rw [h81] at q1
  clear h81
  go_region_law (refine step_copy_run rfl (.tmp 73) (.tmp 76) 25 rfl (v := .slice (some ⟨g, (k + 1) * 2, none⟩) (n - k) (cap - (k + 1))) (xv := .slice (some ⟨g, k * 2, none⟩) (n + 1 - k) (cap - k)) (by simp [Act.eval, Act.put]) (by simp [Act.eval, Act.put]) q1 ?_)
  all_goals simp only [Exit.then]
  all_goals apply_assumption
  clear q1 hw1 hb1 hb0 htn hb2 hb3 hb4
  have s3 := cut_hi (E := EJ) okJ g k (n + 1) cap (by omega) (by omega)
  change ∀ w, (Instr.sliceAt 25 (.slice (some ⟨g, 0, none⟩) (n + 1) cap) (some (.int .i64 k)) none none).run Tryz.prog w = .ok (.slice (some ⟨g, k * 2, none⟩) (n + 1 - k) (cap - k)) w at s3
  go_wp2_with (first | (at_builtin; refine wpList_copy_run rfl _ _ 25 rfl rfl rfl q2 ?_) | fail)
  go_ret
  exact Q.out
set_option maxRecDepth 100000 in
set_option maxHeartbeats 4000000 in
theorem insert_growJ (B g n cap : Nat) (cur : Array Value) (l : List XID) (k : Nat) (c : XID) (b : Nat) (W : World) (hn : n = l.length) (hg : Box W g cur 37) (hcm : cap ≤ maxLen) (hnc : n ≤ cap) (ht : cur.toList.take (n * 2) = flat EJ l) (hx : Box W b (cellsJ c).toArray 37) (hk : k < n) (hroom : cap < n + 1) (hl : n ≤ 900) (hB : B ≤ W.heap.size) :
    Calls Tryz.prog 87 #[.slice (some ⟨g, 0, none⟩) n cap, .int .i64 k, .slice (some ⟨b, 0, none⟩) 1 1] W (InsQJ B l k c (.slice (some ⟨g, 0, none⟩) n cap) W) := by
  have hgw := hg.lt
  have hbw := hx.lt
  obtain ⟨G, R1, R2, R3, hG1, hG2, r1, r2, r3, ow⟩ := grow_mid (E := EJ) (l := l) (k := k) (cap := cap) (cur := cur) (cs := (cellsJ c).toArray) (c := c) okJ 3 Tryz.underlying3 (by omega) (by omega) (by omega) (by omega) (by rw [← hn]; exact ht) W g b hg hbw
  unfold maxLen at hcm hG2
  have s0 := cut_hi (E := EJ) okJ g k n cap (by omega) (by omega)
  have s1 := slice_lo (E := EJ) okJ ⟨g, 0, none⟩ k n cap (by omega)
  have s2 := cut_hi (E := EJ) okJ W.heap.size k (n + 1) G (by omega) (by omega)
  have s3 := cut_hi (E := EJ) okJ W.heap.size (k + 1) (n + 1) G (by omega) (by omega)
  have a1 := r1 25
  have n1 := box_new W.drew R1 37
  have bl : W.drew.heap.size = W.heap.size := rfl
  rw [bl] at n1
  have g1 : Box (W.drew.alloc (.cells R1 37)) g cur 37 := Box.more (show Box W.drew g cur 37 from hg) _
  have x1 : Box (W.drew.alloc (.cells R1 37)) b (cellsJ c).toArray 37 := Box.more (show Box W.drew b _ 37 from hx) _
  have q2 := r2 (W.drew.alloc (.cells R1 37)) 3 (n + 1 - k) (G - k) n1 x1 rfl (by omega)
  have q3 := r3 ((W.drew.alloc (.cells R1 37)).setRow W.heap.size R2).drew 3 (n + 1 - (k + 1)) (G - (k + 1)) (n - k) (cap - k) (Box.set n1 R2) (Box.other g1 (by omega) R2) (by omega)
  have Q := Lib.hid (show InsQJ B l k c (.slice (some ⟨g, 0, none⟩) n cap) W (.returned (.slice (some ⟨W.heap.size, 0, none⟩) (n + 1) G)) (((W.drew.alloc (.cells R1 37)).setRow W.heap.size R2).drew.setRow W.heap.size R3) from ⟨_, rfl, by rw [hn]; exact ow _ B hB (Box.set (Box.set n1 R2) R3), below_setRow (below_setRow ((Below.refl B W).drew.alloc hB _) hB _).drew hB _, fun j hj _ => (setRow_other _ W.heap.size j _ (by omega)).trans ((setRow_other _ W.heap.size j _ (by omega)).trans (Array.getElem?_push_lt hj |>.trans (Array.getElem?_eq_getElem hj).symm))⟩)
  have l1 : l.length + 1 = n + 1 := by rw [hn]
  rw [l1, ← hn] at a1
  clear r1 r2 r3 ow hg ht hx g1 x1 n1 bl l1
  change ∀ w, (Instr.sliceAt 25 (.slice (some ⟨g, 0, none⟩) n cap) (some (.int .i64 k)) none none).run Tryz.prog w = .ok (.slice (some ⟨g, k * 2, none⟩) (n - k) (cap - k)) w at s0
  change ∀ w, (Instr.sliceAt 25 (.slice (some ⟨g, 0, none⟩) n cap) none (some (.int .i64 k)) none).run Tryz.prog w = .ok (.slice (some ⟨g, 0, none⟩) k cap) w at s1
  change ∀ w, (Instr.sliceAt 25 (.slice (some ⟨W.heap.size, 0, none⟩) (n + 1) G) (some (.int .i64 k)) none none).run Tryz.prog w = .ok (.slice (some ⟨W.heap.size, k * 2, none⟩) (n + 1 - k) (G - k)) w at s2
  change ∀ w, (Instr.sliceAt 25 (.slice (some ⟨W.heap.size, 0, none⟩) (n + 1) G) (some (.int .i64 ((k : Int) + 1))) none none).run Tryz.prog w = .ok (.slice (some ⟨W.heap.size, (k + 1) * 2, none⟩) (n + 1 - (k + 1)) (G - (k + 1))) w at s3
  change (Builtin.append_ #[25, 3] 25 #[.slice (some ⟨g, 0, none⟩) k cap, .int .i64 ((n : Int) + 1 - k)]).run Tryz.prog W = .ok (.slice (some ⟨W.heap.size, 0, none⟩) (n + 1) G) (W.drew.alloc (.cells R1 37)) at a1
  change (Builtin.copy_ #[25, 25] 3 #[.slice (some ⟨W.heap.size, k * 2, none⟩) (n + 1 - k) (G - k), .slice (some ⟨b, 0, none⟩) 1 1]).run Tryz.prog (W.drew.alloc (.cells R1 37)) = .ok (.int .i64 1) ((W.drew.alloc (.cells R1 37)).setRow W.heap.size R2) at q2
  change (Builtin.copy_ #[25, 25] 3 #[.slice (some ⟨W.heap.size, (k + 1) * 2, none⟩) (n + 1 - (k + 1)) (G - (k + 1)), .slice (some ⟨g, k * 2, none⟩) (n - k) (cap - k)]).run Tryz.prog ((W.drew.alloc (.cells R1 37)).setRow W.heap.size R2).drew = .ok (.int .i64 ((l.length - k : Nat) : Int)) (((W.drew.alloc (.cells R1 37)).setRow W.heap.size R2).drew.setRow W.heap.size R3) at q3
  have e1 : ((k : Int) == (n : Int)) = false := by rw [beq_eq_false_iff_ne]; omega
  have e2 : decide ((cap : Int) < (n : Int) + 1) = true := by simp; omega
  have hGn : n + 1 ≤ G := by omega
  clear hn
  generalize W.heap.size = N at *
  generalize W.drew.alloc (.cells R1 37) = W1 at *
  generalize W1.setRow N R2 = W2 at *
  go_enter Tryz.func87, Tryz.ntmps87
  go_wp2_with (first | (at_builtin; refine wpList_append_run2 rfl _ _ 25 3 rfl rfl rfl a1 ?_) | (at_builtin; refine wpList_copy_run rfl _ _ 25 rfl rfl rfl q2 ?_) | fail)
  clear a1 q2 s0 s1 s2 s3
  have hw1 : IntKind.i64.wrap ((k : Int) + 1) = (k : Int) + 1 := by rw [IntKind.wrap_i64]; omega
  have hb1 : (0 : Int) ≤ (k : Int) + 1 := by omega
  have hb0 : (k : Int) + 1 ≤ (n : Int) + 1 := by omega
  have htn : ((k : Int) + 1).toNat = k + 1 := by omega
  have hb2 : ¬ (G = k + 1) := by omega
  have hb3 : (k : Int) ≤ (n : Int) := by omega
  have hb4 : ¬ (cap = k) := by omega
  have h81 : n + 1 - (k + 1) = n - k := by omega
  rw [h81] at q3
  clear h81
  go_region_law (refine step_copy_run rfl (.tmp 50) (.tmp 53) 25 rfl (v := .slice (some ⟨N, (k + 1) * 2, none⟩) (n - k) (G - (k + 1))) (xv := .slice (some ⟨g, k * 2, none⟩) (n - k) (cap - k)) (by simp [Act.eval, Act.put]) (by simp [Act.eval, Act.put]) q3 ?_)
  all_goals simp only [Exit.then]
  all_goals apply_assumption
  go_wp2
  go_ret
  exact Q.out
theorem insert_anyJ (B : Nat) (v : Value) (l : List XID) (k : Nat) (c : XID) (b : Nat) (W : World) (ho : OwnJ W B v l) (hx : Box W b (cellsJ c).toArray 37) (hne : v.ownBlock ≠ some b) (hk : k ≤ l.length) (hl : l.length ≤ 900) (hB : B ≤ W.heap.size) :
    Calls Tryz.prog 87 #[v, .int .i64 k, .slice (some ⟨b, 0, none⟩) 1 1] W (InsQJ B l k c v W) := by
  rcases Nat.lt_or_ge k l.length with h | h
  · rcases own_open ho with ⟨_, h2⟩ | ⟨g, cap, cur, rfl, h1, h2, h3, h4, h5, h6⟩
    · rw [h2] at h; simp at h
    · rcases Nat.lt_or_ge cap (l.length + 1) with h7 | h7
      · exact insert_growJ B g _ cap cur l k c b W rfl h2 h4 h3 h6 hx h h7 hl hB
      · exact insert_shiftJ B g _ cap cur l k c b W rfl h1 h2 h4 h5 h6 hx (fun e => hne (by simp [Value.ownBlock, e])) h h7 hl
  · obtain rfl : k = l.length := by omega
    exact insert_endJ B v l c b W ho hx hl hB
end Go.Proofs.YtonoadjmglkhaaaGreat.Av
