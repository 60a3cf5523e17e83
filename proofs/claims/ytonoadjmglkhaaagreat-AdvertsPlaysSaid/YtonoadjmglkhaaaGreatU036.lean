/-
  Entries of broadsidekeep: are two rows of entries the same? Condition: at most a million elements.
  Same of whole numbers. No condition.
  Brokers of broadsidekeep: are two brokers the same? Condition: at most a million constraints at each place, at most 900 of each row.
-/
import Derived.Test.YtonoadjmglkhaaaGreatU035
import Derived.Test.YtonoadjmglkhaaaGreatU018
import Derived.Lib.QuietBelow
import Derived.BigQuiet
namespace Go.Proofs.YtonoadjmglkhaaaGreat.Bk
open Go.RowKit Go.Sort Go.Proofs.YtonoadjmglkhaaaGreat Go.Proofs.YtonoadjmglkhaaaGreat.Rw Go.Proofs.YtonoadjmglkhaaaGreat.Nm Go.Proofs.YtonoadjmglkhaaaGreat.Pr

theorem at_left {α β : Type} {R : α → β → Prop} : ∀ {l m} (_ : All2 R l m) (k : Nat) (a : α), l[k]? = some a → ∃ b, m[k]? = some b ∧ R a b
  | _, _, .nil, k, b, h => by simp at h
  | _, _, .cons x t, 0, b, h => by
    simp at h
    subst h
    exact ⟨_, rfl, x⟩
  | _, _, .cons x t, k + 1, b, h => by
    obtain ⟨a, h1, h2⟩ := at_left t k b (by simpa using h)
    exact ⟨a, by simpa using h1, h2⟩
set_option maxRecDepth 100000 in
set_option maxHeartbeats 8000000 in
theorem entries_any (av_ bv : Value) (l m : List XEn) (la lb : List En) (w : World) (ha : RowN w av_ l) (hb : RowN w bv m) (ua : All2 (EnIn w) l la) (ub : All2 (EnIn w) m lb) (sa : ∀ (k : Nat) (e : En), la[k]? = some e → e.p.length ≤ 1000000) (sb : ∀ (k : Nat) (e : En), lb[k]? = some e → e.p.length ≤ 1000000) (hl : l.length ≤ 1000000) :
    Calls Tryz.prog 43 #[av_, bv] w fun e w' => e = .returned (.bool (sameG eqE la lb)) ∧ Below w.heap.size w w' := by
  have UA := Lib.hid ua
  have UB := Lib.hid ub
  have SHA := Lib.hid sa
  have SHB := Lib.hid sb
  clear ua ub sa sb
  have HA := Lib.hid ha
  have HB := Lib.hid hb
  obtain ⟨ao, ac, rfl⟩ := ha.len
  obtain ⟨bo, bc, rfl⟩ := hb.len
  clear ha hb
  by_cases hlen : l.length = m.length
  · have HL := Lib.hid hlen
    rw [← hlen] at HB ⊢
    obtain ⟨n, hn⟩ : ∃ n, n = l.length := ⟨_, rfl⟩
    simp only [← hn] at HA HB ⊢
    have HN := Lib.hid hn.symm
    rw [← hn] at hl
    clear hlen hn
    go_enter Tryz.func43, Tryz.ntmps43
    go_wp2
    go_loopw [13] (fun i wr => ∃ k : Nat, k ≤ n ∧ i = .int .i64 k ∧ Below w.heap.size w wr ∧ ∀ (j : Nat) (x y : En), j < k → la[j]? = some x → lb[j]? = some y → eqE x y = true) (fun i _ => n - (intOf i).toNat)
    case atStart => exact ⟨0, Nat.zero_le _, rfl, Below.refl _ _, fun j x y h => by omega⟩
    case round =>
      obtain ⟨k, hk, rfl, hbe, hall⟩ := hrel
      have BE := Lib.hid hbe
      have AL := Lib.hid hall
      clear hbe hall
      by_cases hlt : k < n
      · obtain ⟨x, hx⟩ : ∃ x, l[k]? = some x := ⟨_, List.getElem?_eq_getElem (by rw [HN.out]; exact hlt)⟩
        obtain ⟨y, hy⟩ : ∃ y, m[k]? = some y := ⟨_, List.getElem?_eq_getElem (by rw [← HL.out, HN.out]; exact hlt)⟩
        obtain ⟨p, ix, px⟩ := elN HA.out rfl HN.out hx
        obtain ⟨q, iy, py⟩ := elN HB.out rfl (HL.out.symm.trans HN.out) hy
        obtain ⟨sx, hsx, ix_⟩ := at_left UA.out k x hx
        obtain ⟨sy, hsy, iy_⟩ := at_left UB.out k y hy
        obtain ⟨x1, x2, x3, x4, ⟨xo, xn, xc⟩, x6, x7⟩ := x
        obtain ⟨y1, y2, y3, y4, ⟨yo, yn, yc⟩, y6, y7⟩ := y
        obtain ⟨ta, tb, tp, tf, tu⟩ := sx
        obtain ⟨va, vb, vp, vf, vu⟩ := sy
        obtain ⟨rfl, rfl, rfl, rfl, rx⟩ := ix_
        obtain ⟨rfl, rfl, rfl, rfl, ry⟩ := iy_
        have p0 := cell_regrown (px _ BE.out).1
        have p1 := cell_regrown (px _ BE.out).2.1
        have p2 := cell_regrown (px _ BE.out).2.2.1
        have p3 := cell_regrown (px _ BE.out).2.2.2.1
        have p4 := cell_regrown (px _ BE.out).2.2.2.2.1
        have p5 := cell_regrown (px _ BE.out).2.2.2.2.2.1
        have p6 := cell_regrown (px _ BE.out).2.2.2.2.2.2
        have q0 := cell_regrown (py _ BE.out).1
        have q1 := cell_regrown (py _ BE.out).2.1
        have q2 := cell_regrown (py _ BE.out).2.2.1
        have q3 := cell_regrown (py _ BE.out).2.2.2.1
        have q4 := cell_regrown (py _ BE.out).2.2.2.2.1
        have q5 := cell_regrown (py _ BE.out).2.2.2.2.2.1
        have q6 := cell_regrown (py _ BE.out).2.2.2.2.2.2
        have CS := Lib.hid (fun d os => Calls.regrown_of (d := d) (os := os) (sameC_any (.slice xo xn xc) (.slice yo yn yc) tp vp _ ((rx.on BE.out).on (below_regrown wr d os)) ((ry.on BE.out).on (below_regrown wr d os)) (SHA.out _ _ hsx) (SHB.out _ _ hsy)))
        have R0 := show eqE ⟨(x1, x2), (x3, x4), tp, x6, x7⟩ ⟨(y1, y2), (y3, y4), vp, y6, y7⟩ = (eqI (x1, x2) (y1, y2) && (eqI (x3, x4) (y3, y4) && (x6 == y6 && (x7 == y7 && sameC tp vp)))) from rfl
        obtain ⟨r1, e1⟩ : ∃ r, eqI (x1, x2) (y1, y2) = r := ⟨_, rfl⟩
        obtain ⟨r2, e2⟩ : ∃ r, eqI (x3, x4) (y3, y4) = r := ⟨_, rfl⟩
        obtain ⟨r3, e3⟩ : ∃ r, (x6 == y6) = r := ⟨_, rfl⟩
        obtain ⟨r5, e5⟩ : ∃ r, sameC tp vp = r := ⟨_, rfl⟩
        have h1 := neId x1 x2 y1 y2 (!r1) (by rw [← e1]; rfl)
        have h2 := neId x3 x4 y3 y4 (!r2) (by rw [← e2]; rfl)
        have h3 : (x6 != y6) = !r3 := by rw [← e3]; rfl
        rw [e5] at CS
        rw [e1, e2, e3, e5] at R0
        have HX := Lib.hid hsx
        have HY := Lib.hid hsy
        have HR0 := Lib.hid R0
        clear px py hx hy hsx hsy rx ry R0 e1 e2 e3 e5
        cases r1
        · have HR := Lib.hid (HR0.out.trans (show _ = false by simp))
          have R := Lib.hid (show sameG eqE la lb = false from sameG_not la lb k _ _ HX.out HY.out HR.out)
          go_wp2
          refine wp_region_quiet_below (by kernel_rfl) (by kernel_rfl) ?_
          repeat (go_big_quiet_step (first | (with_reducible exact CS.out _ _)))
          refine wpQuiet_nil ?_
          intro _ hw'
          obtain ⟨⟨dq, osq⟩, hw''⟩ := hw'
          subst hw''
          go_wp2
          go_ret
          exact ⟨ret_b R.out.symm, BE.out.trans ((below_regrown wr dq osq).mono BE.out.size)⟩
        · cases r2
          · have HR := Lib.hid (HR0.out.trans (show _ = false by simp))
            have R := Lib.hid (show sameG eqE la lb = false from sameG_not la lb k _ _ HX.out HY.out HR.out)
            go_wp2
            refine wp_region_quiet_below (by kernel_rfl) (by kernel_rfl) ?_
            repeat (go_big_quiet_step (first | (with_reducible exact CS.out _ _)))
            refine wpQuiet_nil ?_
            intro _ hw'
            obtain ⟨⟨dq, osq⟩, hw''⟩ := hw'
            subst hw''
            go_wp2
            go_ret
            exact ⟨ret_b R.out.symm, BE.out.trans ((below_regrown wr dq osq).mono BE.out.size)⟩
          · cases r3
            · have HR := Lib.hid (HR0.out.trans (show _ = false by simp))
              have R := Lib.hid (show sameG eqE la lb = false from sameG_not la lb k _ _ HX.out HY.out HR.out)
              go_wp2
              refine wp_region_quiet_below (by kernel_rfl) (by kernel_rfl) ?_
              repeat (go_big_quiet_step (first | (with_reducible exact CS.out _ _)))
              refine wpQuiet_nil ?_
              intro _ hw'
              obtain ⟨⟨dq, osq⟩, hw''⟩ := hw'
              subst hw''
              go_wp2
              go_ret
              exact ⟨ret_b R.out.symm, BE.out.trans ((below_regrown wr dq osq).mono BE.out.size)⟩
            · cases x7 <;> cases y7
              · cases r5
                · have HR := Lib.hid (HR0.out.trans (show _ = false by simp))
                  have R := Lib.hid (show sameG eqE la lb = false from sameG_not la lb k _ _ HX.out HY.out HR.out)
                  go_wp2
                  refine wp_region_quiet_below (by kernel_rfl) (by kernel_rfl) ?_
                  repeat (go_big_quiet_step (first | (with_reducible exact CS.out _ _)))
                  refine wpQuiet_nil ?_
                  intro _ hw'
                  obtain ⟨⟨dq, osq⟩, hw''⟩ := hw'
                  subst hw''
                  go_wp2
                  go_ret
                  exact ⟨ret_b R.out.symm, BE.out.trans ((below_regrown wr dq osq).mono BE.out.size)⟩
                · have HR := Lib.hid (HR0.out.trans (show _ = true by simp))
                  go_wp2
                  refine wp_region_quiet_below (by kernel_rfl) (by kernel_rfl) ?_
                  repeat (go_big_quiet_step (first | (with_reducible exact CS.out _ _)))
                  refine wpQuiet_nil ?_
                  intro _ hw'
                  obtain ⟨⟨dq, osq⟩, hw''⟩ := hw'
                  subst hw''
                  clear ix iy p0 q0 p1 q1 p2 q2 p3 q3 p4 q4 p5 q5 p6 q6 h1 h2 h3
                  go_wp2
                  go_roundw
                  case rel => exact ⟨k + 1, by omega, by go_num, BE.out.trans ((below_regrown wr dq osq).mono BE.out.size), fun j x' y' hj h1 h2 => by
                    rcases Nat.lt_or_ge j k with h3 | h3
                    · exact AL.out j x' y' h3 h1 h2
                    · obtain rfl : j = k := by omega
                      have e1 := HX.out
                      have e2 := HY.out
                      rw [h1] at e1
                      rw [h2] at e2
                      rw [Option.some.inj e1, Option.some.inj e2]
                      exact HR.out⟩
                  case measure => simp [intOf]; omega
              · have HR := Lib.hid (HR0.out.trans (show _ = false by simp))
                have R := Lib.hid (show sameG eqE la lb = false from sameG_not la lb k _ _ HX.out HY.out HR.out)
                go_wp2
                refine wp_region_quiet_below (by kernel_rfl) (by kernel_rfl) ?_
                repeat (go_big_quiet_step (first | (with_reducible exact CS.out _ _)))
                refine wpQuiet_nil ?_
                intro _ hw'
                obtain ⟨⟨dq, osq⟩, hw''⟩ := hw'
                subst hw''
                go_wp2
                go_ret
                exact ⟨ret_b R.out.symm, BE.out.trans ((below_regrown wr dq osq).mono BE.out.size)⟩
              · have HR := Lib.hid (HR0.out.trans (show _ = false by simp))
                have R := Lib.hid (show sameG eqE la lb = false from sameG_not la lb k _ _ HX.out HY.out HR.out)
                go_wp2
                refine wp_region_quiet_below (by kernel_rfl) (by kernel_rfl) ?_
                repeat (go_big_quiet_step (first | (with_reducible exact CS.out _ _)))
                refine wpQuiet_nil ?_
                intro _ hw'
                obtain ⟨⟨dq, osq⟩, hw''⟩ := hw'
                subst hw''
                go_wp2
                go_ret
                exact ⟨ret_b R.out.symm, BE.out.trans ((below_regrown wr dq osq).mono BE.out.size)⟩
              · cases r5
                · have HR := Lib.hid (HR0.out.trans (show _ = false by simp))
                  have R := Lib.hid (show sameG eqE la lb = false from sameG_not la lb k _ _ HX.out HY.out HR.out)
                  go_wp2
                  refine wp_region_quiet_below (by kernel_rfl) (by kernel_rfl) ?_
                  repeat (go_big_quiet_step (first | (with_reducible exact CS.out _ _)))
                  refine wpQuiet_nil ?_
                  intro _ hw'
                  obtain ⟨⟨dq, osq⟩, hw''⟩ := hw'
                  subst hw''
                  go_wp2
                  go_ret
                  exact ⟨ret_b R.out.symm, BE.out.trans ((below_regrown wr dq osq).mono BE.out.size)⟩
                · have HR := Lib.hid (HR0.out.trans (show _ = true by simp))
                  go_wp2
                  refine wp_region_quiet_below (by kernel_rfl) (by kernel_rfl) ?_
                  repeat (go_big_quiet_step (first | (with_reducible exact CS.out _ _)))
                  refine wpQuiet_nil ?_
                  intro _ hw'
                  obtain ⟨⟨dq, osq⟩, hw''⟩ := hw'
                  subst hw''
                  clear ix iy p0 q0 p1 q1 p2 q2 p3 q3 p4 q4 p5 q5 p6 q6 h1 h2 h3
                  go_wp2
                  go_roundw
                  case rel => exact ⟨k + 1, by omega, by go_num, BE.out.trans ((below_regrown wr dq osq).mono BE.out.size), fun j x' y' hj h1 h2 => by
                    rcases Nat.lt_or_ge j k with h3 | h3
                    · exact AL.out j x' y' h3 h1 h2
                    · obtain rfl : j = k := by omega
                      have e1 := HX.out
                      have e2 := HY.out
                      rw [h1] at e1
                      rw [h2] at e2
                      rw [Option.some.inj e1, Option.some.inj e2]
                      exact HR.out⟩
                  case measure => simp [intOf]; omega
      · obtain rfl : k = n := by omega
        have R := Lib.hid (show sameG eqE la lb = true from sameG_all la lb (by rw [← UA.out.len, ← UB.out.len]; exact HL.out) (fun j a b h1 h2 => AL.out j a b (by have := (List.getElem?_eq_some_iff.1 h1).1; have := HN.out; have := UA.out.len; omega) h1 h2))
        go_wp2
        go_ret
        exact ⟨ret_b R.out.symm, BE.out⟩
  · have R := Lib.hid (show sameG eqE la lb = false by
      cases h : sameG eqE la lb
      · rfl
      · have h2 := sameG_len _ _ h
        exact absurd (by rw [UA.out.len, UB.out.len]; exact h2) hlen)
    have hne : (((l.length : Nat) : Int) != ((m.length : Nat) : Int)) = true := by simp; omega
    have hne2 : (((l.length : Nat) : Int) == ((m.length : Nat) : Int)) = false := by simp; omega
    clear hlen
    go_enter Tryz.func43, Tryz.ntmps43
    go_wp2
    go_ret
    exact ⟨ret_b R.out.symm, Below.refl _ _⟩
end Go.Proofs.YtonoadjmglkhaaaGreat.Bk

namespace Go.Proofs.YtonoadjmglkhaaaGreat.Bk
open Go.RowKit Go.Sort Go.Proofs.YtonoadjmglkhaaaGreat Go.Proofs.YtonoadjmglkhaaaGreat.Rw Go.Proofs.YtonoadjmglkhaaaGreat.Nm

theorem take_eq {α : Type} {a b : List α} {k : Nat} {x y : α} (h : a.take k = b.take k) (hx : a[k]? = some x) (hy : b[k]? = some y) (e : x = y) : a.take (k + 1) = b.take (k + 1) := by
  rw [List.take_add_one, List.take_add_one, hx, hy, h, e]
set_option maxRecDepth 100000 in
set_option maxHeartbeats 8000000 in
theorem sameI (av bv : Value) (a b : List Int) (w : World) (ha : RowI w av a) (hb : RowI w bv b) :
    Calls Tryz.prog 41 #[av, bv] w fun e w' => e = .returned (.bool (decide (a = b))) ∧ Below w.heap.size w w' := by
  have HA := Lib.hid ha
  have HB := Lib.hid hb
  have ma := ha.most
  have mb := hb.most
  unfold maxLen at ma mb
  obtain ⟨ao, ac, rfl⟩ := ha.len
  obtain ⟨bo, bc, rfl⟩ := hb.len
  clear ha hb
  by_cases hl : a.length = b.length
  · obtain ⟨n, hn⟩ : ∃ n, n = a.length := ⟨_, rfl⟩
    have NA := Lib.hid hn.symm
    have NB := Lib.hid (hl.symm.trans hn.symm)
    rw [← hl, ← hn] at HB
    rw [← hn] at HA ma
    rw [← hl, ← hn]
    clear hl hn mb
    go_enter Tryz.func41, Tryz.ntmps41
    go_wp2
    go_loopw [5] (fun i wr => ∃ k : Nat, k ≤ n ∧ i = .int .i64 k ∧ a.take k = b.take k ∧ Below w.heap.size w wr) (fun i _ => n - (intOf i).toNat)
    case atStart => exact ⟨0, Nat.zero_le _, rfl, rfl, Below.refl _ _⟩
    case round =>
      obtain ⟨k, hk, rfl, htk, hbe⟩ := hrel
      have TK := Lib.hid htk
      have BE := Lib.hid hbe
      clear hbe htk
      by_cases hlt : k < n
      · obtain ⟨x, hx⟩ : ∃ x, a[k]? = some x := ⟨_, List.getElem?_eq_getElem (by rw [NA.out]; exact hlt)⟩
        obtain ⟨y, hy⟩ : ∃ y, b[k]? = some y := ⟨_, List.getElem?_eq_getElem (by rw [NB.out]; exact hlt)⟩
        obtain ⟨p, ix, _, px⟩ := elI HA.out rfl NA.out hx
        obtain ⟨q, iy, _, py⟩ := elI HB.out rfl NB.out hy
        have p0 := cell_regrown (px _ BE.out)
        have q0 := cell_regrown (py _ BE.out)
        obtain ⟨r, hr⟩ : ∃ r, ((x : Int) == (y : Int)) = r := ⟨_, rfl⟩
        have HX := Lib.hid hx
        have HY := Lib.hid hy
        have HR := Lib.hid hr
        clear px py hx hy
        go_wp2
        have hr2 : ((x : Int) != (y : Int)) = !r := by unfold bne; rw [hr]
        cases r
        all_goals
          simp only [Bool.not_true, Bool.not_false] at hr2
          refine wp_region_quiet_below (by kernel_rfl) (by kernel_rfl) ?_
          repeat (go_big_quiet_step (fail))
          refine wpQuiet_nil ?_
          intro _ hw'
          obtain ⟨⟨dq, osq⟩, hw''⟩ := hw'
          subst hw''
          have BN := Lib.hid (BE.out.trans ((below_regrown wr dq osq).mono BE.out.size))
          clear p0 q0 ix iy hr
        · go_wp2
          go_ret
          refine ⟨?_, BN.out⟩
          have hne : a ≠ b := fun e => by
            have h1 := HX.out
            rw [e, HY.out] at h1
            cases h1
            have h2 := HR.out
            simp at h2
          rw [decide_eq_false hne]
          rfl
        · have TN := Lib.hid (take_eq TK.out HX.out HY.out (by have h := HR.out; rw [beq_iff_eq] at h; exact h))
          go_wp2
          go_roundw
          case rel => exact ⟨k + 1, by omega, by go_num, TN.out, BN.out⟩
          case measure => simp [intOf]; omega
      · obtain rfl : k = n := by omega
        have EQ := Lib.hid (show a = b by have h := TK.out; rwa [List.take_of_length_le (by rw [NA.out]; exact Nat.le_refl _), List.take_of_length_le (by rw [NB.out]; exact Nat.le_refl _)] at h)
        go_wp2
        go_ret
        exact ⟨by rw [decide_eq_true EQ.out]; rfl, BE.out⟩
  · have hd : ((a.length : Int) == (b.length : Int)) = false := by simp; omega
    have hd2 : (a.length == b.length) = false := by simp; exact hl
    have E := Lib.hid (decide_eq_false (show ¬ a = b from fun e => hl (by rw [e])))
    have HD := Lib.hid hl
    clear hl
    go_enter Tryz.func41, Tryz.ntmps41
    go_wp2
    go_ret
    exact ⟨by rw [E.out]; rfl, Below.refl _ _⟩
end Go.Proofs.YtonoadjmglkhaaaGreat.Bk

namespace Go.Proofs.YtonoadjmglkhaaaGreat.Bk
open Go.RowKit Go.Sort Go.Proofs.YtonoadjmglkhaaaGreat Go.Proofs.YtonoadjmglkhaaaGreat.Rw Go.Proofs.YtonoadjmglkhaaaGreat.Nm Go.Proofs.YtonoadjmglkhaaaGreat.Pr

def eqD (x y : Ad) : Bool := eqI x.id y.id && (x.par == y.par && sameC x.p y.p)
def eqW (x y : Ow) : Bool := eqI x.id y.id && sameC x.p y.p
theorem eqD_iff (x y : Ad) : eqD x y = true ↔ x = y := by
  obtain ⟨a, b, c⟩ := x
  obtain ⟨a', b', c'⟩ := y
  simp only [eqD, Bool.and_eq_true, eqI_iff, sameC_iff, beq_iff_eq, Ad.mk.injEq]
  constructor
  · rintro ⟨h1, h2, h3⟩
    exact ⟨h1, h3, h2⟩
  · rintro ⟨h1, h2, h3⟩
    exact ⟨h1, h3, h2⟩
theorem eqW_iff (x y : Ow) : eqW x y = true ↔ x = y := by
  obtain ⟨a, b⟩ := x
  obtain ⟨a', b'⟩ := y
  simp only [eqW, Bool.and_eq_true, eqI_iff, sameC_iff, Ow.mk.injEq]
def sameBr (a b : Br) : Bool := a.me == b.me && (decide (a.near = b.near) && (sameG eqI a.seen b.seen && (decide (a.adv.length = b.adv.length) && (decide (a.own.length = b.own.length) && (sameG eqE a.ent b.ent && (sameG eqD a.adv b.adv && sameG eqW a.own b.own))))))
theorem sameBr_iff (a b : Br) : sameBr a b = true ↔ a = b := by
  obtain ⟨m, n, d, s, e, o⟩ := a
  obtain ⟨m', n', d', s', e', o'⟩ := b
  simp only [sameBr, Bool.and_eq_true, beq_iff_eq, decide_eq_true_eq, sameG_iff eqI_iff, sameG_iff eqE_iff, sameG_iff eqD_iff, sameG_iff eqW_iff, Br.mk.injEq]
  constructor
  · rintro ⟨h1, h2, h3, _, _, h6, h7, h8⟩
    exact ⟨h1, h2, h7, h3, h6, h8⟩
  · rintro ⟨h1, h2, h3, h4, h5, h6⟩
    exact ⟨h1, h2, h4, by rw [h3], by rw [h6], h5, h3, h6⟩
/-- All its predicates are short. -/
def Shr (b : Br) : Prop := (∀ (k : Nat) (a : Ad), b.adv[k]? = some a → a.p.length ≤ 1000000) ∧ (∀ (k : Nat) (e : En), b.ent[k]? = some e → e.p.length ≤ 1000000) ∧ (∀ (k : Nat) (o : Ow), b.own[k]? = some o → o.p.length ≤ 1000000)
set_option maxRecDepth 100000 in
set_option maxHeartbeats 32000000 in
theorem brokers_any (a b : Br) (nv av sv ev ov nv2 av2 sv2 ev2 ov2 : Sl) (w : World) (ha : BrIn w a nv av sv ev ov) (hb : BrIn w b nv2 av2 sv2 ev2 ov2) (sa : Shr a) (sb : Shr b) (fa : Few a) :
    Calls Tryz.prog 16 #[brv a.me nv av sv ev ov, brv b.me nv2 av2 sv2 ev2 ov2] w fun e w' => e = .returned (.bool (sameBr a b)) ∧ Below w.heap.size w w' := by
  obtain ⟨no, nn, nc⟩ := nv
  obtain ⟨ao, an, ac⟩ := av
  obtain ⟨so, sn, sc⟩ := sv
  obtain ⟨eo, en, ec⟩ := ev
  obtain ⟨oo, on_, oc⟩ := ov
  obtain ⟨no2, nn2, nc2⟩ := nv2
  obtain ⟨ao2, an2, ac2⟩ := av2
  obtain ⟨so2, sn2, sc2⟩ := sv2
  obtain ⟨eo2, en2, ec2⟩ := ev2
  obtain ⟨oo2, on_2, oc2⟩ := ov2
  obtain ⟨lDa, hd1, hd2⟩ := ha.adv
  obtain ⟨lDb, hd3, hd4⟩ := hb.adv
  obtain ⟨lEa, he1, he2⟩ := ha.ent
  obtain ⟨lEb, he3, he4⟩ := hb.ent
  obtain ⟨lWa, hw1, hw2⟩ := ha.own
  obtain ⟨lWb, hw3, hw4⟩ := hb.own
  have hl9 : lEa.length ≤ 1000000 := by have := he2.len; have := fa.ent; omega
  have hm9 := fa.adv
  have hn9 := fa.own
  have la9 := hd2.len
  have lo9 := hw2.len
  obtain ⟨q1_, q2_, hq_⟩ := hd1.len
  obtain ⟨rfl, k1, rfl⟩ : ao = q1_ ∧ an = (lDa).length ∧ ac = q2_ := by
    have h_ : Value.slice ao an ac = .slice q1_ (lDa).length q2_ := hq_
    simpa using h_
  clear hq_
  obtain ⟨q1_, q2_, hq_⟩ := hd3.len
  obtain ⟨rfl, k2, rfl⟩ : ao2 = q1_ ∧ an2 = (lDb).length ∧ ac2 = q2_ := by
    have h_ : Value.slice ao2 an2 ac2 = .slice q1_ (lDb).length q2_ := hq_
    simpa using h_
  clear hq_
  obtain ⟨q1_, q2_, hq_⟩ := hw1.len
  obtain ⟨rfl, k3, rfl⟩ : oo = q1_ ∧ on_ = (lWa).length ∧ oc = q2_ := by
    have h_ : Value.slice oo on_ oc = .slice q1_ (lWa).length q2_ := hq_
    simpa using h_
  clear hq_
  obtain ⟨q1_, q2_, hq_⟩ := hw3.len
  obtain ⟨rfl, k4, rfl⟩ : oo2 = q1_ ∧ on_2 = (lWb).length ∧ oc2 = q2_ := by
    have h_ : Value.slice oo2 on_2 oc2 = .slice q1_ (lWb).length q2_ := hq_
    simpa using h_
  clear hq_
  have LDA := Lib.hid k1
  have LDB := Lib.hid k2
  have LWA := Lib.hid k3
  have LWB := Lib.hid k4
  have bnd1 : an ≤ 900 := by omega
  have bnd2 : on_ ≤ 900 := by omega
  have UDA := Lib.hid hd2
  have UDB := Lib.hid hd4
  have UWA := Lib.hid hw2
  have UWB := Lib.hid hw4
  have RDA := Lib.hid hd1
  have RDB := Lib.hid hd3
  have RWA := Lib.hid hw1
  have RWB := Lib.hid hw3
  have SHA := Lib.hid sa
  have SHB := Lib.hid sb
  obtain ⟨h0, h1, h2⟩ := two_new w #[.int .i64 a.me, .slice no nn nc, .slice ao an ac, .slice so sn sc, .slice eo en ec, .slice oo on_ oc] #[.int .i64 b.me, .slice no2 nn2 nc2, .slice ao2 an2 ac2, .slice so2 sn2 sc2, .slice eo2 en2 ec2, .slice oo2 on_2 oc2] 29 29
  obtain ⟨r1, e1⟩ : ∃ r, decide (a.near = b.near) = r := ⟨_, rfl⟩
  obtain ⟨r2, e2⟩ : ∃ r, sameG eqI a.seen b.seen = r := ⟨_, rfl⟩
  obtain ⟨r3, e3⟩ : ∃ r, decide (a.adv.length = b.adv.length) = r := ⟨_, rfl⟩
  obtain ⟨r4, e4⟩ : ∃ r, decide (a.own.length = b.own.length) = r := ⟨_, rfl⟩
  obtain ⟨r5, e5⟩ : ∃ r, sameG eqE a.ent b.ent = r := ⟨_, rfl⟩
  have hR : sameBr a b = (a.me == b.me && (r1 && (r2 && (r3 && (r4 && (r5 && (sameG eqD a.adv b.adv && sameG eqW a.own b.own))))))) := by rw [← e1, ← e2, ← e3, ← e4, ← e5]; rfl
  have CN0 := Lib.hid (fun W (hb_ : Below w.heap.size w W) => sameI (.slice no nn nc) (.slice no2 nn2 nc2) a.near b.near W (ha.near.on hb_) (hb.near.on hb_))
  have CJ0 := Lib.hid (fun W (hb_ : Below w.heap.size w W) => sameJ_any (.slice so sn sc) (.slice so2 sn2 sc2) a.seen b.seen W (ha.seen.on hb_) (hb.seen.on hb_) (by have := fa.seen; omega))
  have CE0 := Lib.hid (fun W (hb_ : Below w.heap.size w W) => entries_any (.slice eo en ec) (.slice eo2 en2 ec2) lEa lEb a.ent b.ent W (he1.on hb_) (he3.on hb_) (he2.mono fun _ _ h => h.on hb_) (he4.mono fun _ _ h => h.on hb_) sa.2.1 sb.2.1 hl9)
  rw [e1] at CN0
  rw [e2] at CJ0
  rw [e5] at CE0
  have E3 := Lib.hid e3
  have E4 := Lib.hid e4
  obtain ⟨me, hme⟩ : ∃ me, me = a.me := ⟨_, rfl⟩
  obtain ⟨me2, hme2⟩ : ∃ me, me = b.me := ⟨_, rfl⟩
  simp only [← hme, ← hme2] at h0 h1 h2 hR ⊢
  obtain ⟨r0, e0⟩ : ∃ r, (me == me2) = r := ⟨_, rfl⟩
  have h0' : (me != me2) = !r0 := by rw [← e0]; rfl
  rw [e0] at hR
  have R := Lib.hid hR
  generalize sameBr a b = rr at *
  have B0 := Lib.hid h0
  have X0 := Lib.hid h1
  have Y0 := Lib.hid h2
  clear h0 h1 h2 ha hb sa sb fa hd1 hd2 hd3 hd4 he1 he2 he3 he4 hw1 hw2 hw3 hw4 hl9 hm9 hn9 la9 lo9 k1 k2 k3 k4 e1 e2 e3 e4 e5 hme hme2 hR
  show Calls Tryz.prog 16 #[.agg #[.int .i64 me, .slice no nn nc, .slice ao an ac, .slice so sn sc, .slice eo en ec, .slice oo on_ oc], .agg #[.int .i64 me2, .slice no2 nn2 nc2, .slice ao2 an2 ac2, .slice so2 sn2 sc2, .slice eo2 en2 ec2, .slice oo2 on_2 oc2]] w _
  go_enter Tryz.func16, Tryz.ntmps16
  go_upto_region 1 with fail
  generalize (w.alloc (.cells #[.int .i64 me, .slice no nn nc, .slice ao an ac, .slice so sn sc, .slice eo en ec, .slice oo on_ oc] 29)).alloc (.cells #[.int .i64 me2, .slice no2 nn2 nc2, .slice ao2 an2 ac2, .slice so2 sn2 sc2, .slice eo2 en2 ec2, .slice oo2 on_2 oc2] 29) = W at *
  have CN := Lib.hid (CN0.out W B0.out)
  clear CN0
  have x_ := X0.out
  have y_ := Y0.out
  have x0 := x_.cell 0
  have x1 := x_.cell 1
  have x2 := x_.cell 2
  have x3 := x_.cell 3
  have x4 := x_.cell 4
  have x5 := x_.cell 5
  have y0 := y_.cell 0
  have y1 := y_.cell 1
  have y2 := y_.cell 2
  have y3 := y_.cell 3
  have y4 := y_.cell 4
  have y5 := y_.cell 5
  simp only [List.getElem?_toArray, List.getElem?_cons_zero, List.getElem?_cons_succ] at x0 x1 x2 x3 x4 x5 y0 y1 y2 y3 y4 y5
  clear x_ y_
  cases r0
  · go_wp2
    go_ret
    exact ⟨ret_b (by rw [R.out]; simp), B0.out⟩
  · go_wp2_with fail
    refine CN.out.mono ?_
    rintro e1 w1 ⟨rfl, hb⟩
    have B1 := Lib.hid (B0.out.trans (hb.mono B0.out.size))
    have X1 := Lib.hid (X0.out.on hb)
    have Y1 := Lib.hid (Y0.out.on hb)
    clear hb CN x0 x1 x2 x3 x4 x5 y0 y1 y2 y3 y4 y5
    have x_ := X1.out
    have y_ := Y1.out
    have x0 := x_.cell 0
    have x1 := x_.cell 1
    have x2 := x_.cell 2
    have x3 := x_.cell 3
    have x4 := x_.cell 4
    have x5 := x_.cell 5
    have y0 := y_.cell 0
    have y1 := y_.cell 1
    have y2 := y_.cell 2
    have y3 := y_.cell 3
    have y4 := y_.cell 4
    have y5 := y_.cell 5
    simp only [List.getElem?_toArray, List.getElem?_cons_zero, List.getElem?_cons_succ] at x0 x1 x2 x3 x4 x5 y0 y1 y2 y3 y4 y5
    clear x_ y_
    cases r1
    · go_wp2
      go_ret
      exact ⟨ret_b (by rw [R.out]; simp), B1.out⟩
    · have CJ := Lib.hid (CJ0.out w1 B1.out)
      go_wp2_with fail
      refine CJ.out.mono ?_
      rintro e2 w2 ⟨rfl, hb⟩
      have B2 := Lib.hid (B1.out.trans (hb.mono B1.out.size))
      have X2 := Lib.hid (X1.out.on hb)
      have Y2 := Lib.hid (Y1.out.on hb)
      clear hb CJ x0 x1 x2 x3 x4 x5 y0 y1 y2 y3 y4 y5
      have x_ := X2.out
      have y_ := Y2.out
      have x0 := x_.cell 0
      have x1 := x_.cell 1
      have x2 := x_.cell 2
      have x3 := x_.cell 3
      have x4 := x_.cell 4
      have x5 := x_.cell 5
      have y0 := y_.cell 0
      have y1 := y_.cell 1
      have y2 := y_.cell 2
      have y3 := y_.cell 3
      have y4 := y_.cell 4
      have y5 := y_.cell 5
      simp only [List.getElem?_toArray, List.getElem?_cons_zero, List.getElem?_cons_succ] at x0 x1 x2 x3 x4 x5 y0 y1 y2 y3 y4 y5
      clear x_ y_
      cases r2
      · go_wp2
        go_ret
        exact ⟨ret_b (by rw [R.out]; simp), B2.out⟩
      · by_cases hA : an = an2
        · subst hA
          have k3 : r3 = true := by rw [← E3.out]; exact decide_eq_true (by rw [← UDA.out.len, ← UDB.out.len]; have := LDA.out; have := LDB.out; omega)
          subst k3
          by_cases hO : on_ = on_2
          · subst hO
            have k4 : r4 = true := by rw [← E4.out]; exact decide_eq_true (by rw [← UWA.out.len, ← UWB.out.len]; have := LWA.out; have := LWB.out; omega)
            subst k4
            have CE := Lib.hid (CE0.out w2 B2.out)
            go_wp2_with fail
            refine CE.out.mono ?_
            rintro e4 w4 ⟨rfl, hb⟩
            have B4 := Lib.hid (B2.out.trans (hb.mono B2.out.size))
            have X4 := Lib.hid (X2.out.on hb)
            have Y4 := Lib.hid (Y2.out.on hb)
            clear hb CE x0 x1 x2 x3 x4 x5 y0 y1 y2 y3 y4 y5
            have x_ := X4.out
            have y_ := Y4.out
            have x0 := x_.cell 0
            have x1 := x_.cell 1
            have x2 := x_.cell 2
            have x3 := x_.cell 3
            have x4 := x_.cell 4
            have x5 := x_.cell 5
            have y0 := y_.cell 0
            have y1 := y_.cell 1
            have y2 := y_.cell 2
            have y3 := y_.cell 3
            have y4 := y_.cell 4
            have y5 := y_.cell 5
            simp only [List.getElem?_toArray, List.getElem?_cons_zero, List.getElem?_cons_succ] at x0 x1 x2 x3 x4 x5 y0 y1 y2 y3 y4 y5
            clear x_ y_
            cases r5
            · go_wp2
              go_ret
              exact ⟨ret_b (by rw [R.out]; simp), B4.out⟩
            · go_wp2
              go_loopw [57] (fun i wr => ∃ k : Nat, k ≤ an ∧ i = .int .i64 k ∧ Below w4.heap.size w4 wr ∧ ∀ (j : Nat) (x y : Ad), j < k → a.adv[j]? = some x → b.adv[j]? = some y → eqD x y = true) (fun i _ => an - (intOf i).toNat)
              case atStart => exact ⟨0, Nat.zero_le _, rfl, Below.refl _ _, fun j x y h => by omega⟩
              case round =>
                obtain ⟨k, hk, rfl, hbe, hall⟩ := hrel
                have BE := Lib.hid hbe
                have AL := Lib.hid hall
                have WX := Lib.hid B4.out
                clear hbe hall
                by_cases hlt : k < an
                · obtain ⟨x, hx⟩ : ∃ x, lDa[k]? = some x := ⟨_, List.getElem?_eq_getElem (by have := LDA.out; omega)⟩
                  obtain ⟨y, hy⟩ : ∃ y, lDb[k]? = some y := ⟨_, List.getElem?_eq_getElem (by have := LDB.out; omega)⟩
                  obtain ⟨p, ix, px⟩ := elD (RDA.out.on WX.out) rfl LDA.out.symm hx
                  obtain ⟨q, iy, py⟩ := elD (RDB.out.on WX.out) rfl LDB.out.symm hy
                  obtain ⟨sx, hsx, ix_⟩ := at_left UDA.out k x hx
                  obtain ⟨sy, hsy, iy_⟩ := at_left UDB.out k y hy
                  obtain ⟨x1, x2, ⟨xo, xn, xc⟩, x4⟩ := x
                  obtain ⟨y1, y2, ⟨yo, yn, yc⟩, y4⟩ := y
                  obtain ⟨ta, tp, tf⟩ := sx
                  obtain ⟨va, vp, vf⟩ := sy
                  obtain ⟨rfl, rfl, rx⟩ := ix_
                  obtain ⟨rfl, rfl, ry⟩ := iy_
                  have R0 := show eqD ⟨(x1, x2), tp, x4⟩ ⟨(y1, y2), vp, y4⟩ = (eqI (x1, x2) (y1, y2) && (x4 == y4 && sameC tp vp)) from rfl
                  have b2 := cell_regrown (show wr.cell? ⟨w.heap.size, 2, none⟩ = some (.slice ao an ac) from (X4.out.on BE.out).cell 2)
                  have b3 := cell_regrown (show wr.cell? ⟨w.heap.size + 1, 2, none⟩ = some (.slice ao2 an ac2) from (Y4.out.on BE.out).cell 2)
                  have p0 := cell_regrown (px _ BE.out).1
                  have p1 := cell_regrown (px _ BE.out).2.1
                  have p2 := cell_regrown (px _ BE.out).2.2.1
                  have p3 := cell_regrown (px _ BE.out).2.2.2
                  have q0 := cell_regrown (py _ BE.out).1
                  have q1 := cell_regrown (py _ BE.out).2.1
                  have q2 := cell_regrown (py _ BE.out).2.2.1
                  have q3 := cell_regrown (py _ BE.out).2.2.2
                  have CS := Lib.hid (fun d os => Calls.regrown_of (d := d) (os := os) (sameC_any (.slice xo xn xc) (.slice yo yn yc) tp vp _ (((rx.on WX.out).on BE.out).on (below_regrown wr d os)) (((ry.on WX.out).on BE.out).on (below_regrown wr d os)) (SHA.out.1 _ _ hsx) (SHB.out.1 _ _ hsy)))
                  obtain ⟨s1, e1⟩ : ∃ r, eqI (x1, x2) (y1, y2) = r := ⟨_, rfl⟩
                  obtain ⟨s2, e2⟩ : ∃ r, (x4 == y4) = r := ⟨_, rfl⟩
                  obtain ⟨s3, e3⟩ : ∃ r, sameC tp vp = r := ⟨_, rfl⟩
                  have h1 := neId x1 x2 y1 y2 (!s1) (by rw [← e1]; rfl)
                  have h2 : (x4 != y4) = !s2 := by rw [← e2]; rfl
                  rw [e3] at CS
                  rw [e1, e2, e3] at R0
                  have HX := Lib.hid hsx
                  have HY := Lib.hid hsy
                  have HR0 := Lib.hid R0
                  clear px py hx hy hsx hsy rx ry R0 e1 e2 e3
                  cases s1
                  · have HR := Lib.hid (HR0.out.trans (show _ = false by simp))
                    have RN := Lib.hid (show sameG eqD a.adv b.adv = false from sameG_not a.adv b.adv k _ _ HX.out HY.out HR.out)
                    clear HR0
                    go_wp2
                    refine wp_region_quiet_below (by kernel_rfl) (by kernel_rfl) ?_
                    repeat (go_big_quiet_step (first | (with_reducible exact CS.out _ _)))
                    refine wpQuiet_nil ?_
                    intro _ hw'
                    obtain ⟨⟨dq, osq⟩, hw''⟩ := hw'
                    subst hw''
                    go_wp2
                    go_ret
                    exact ⟨ret_b (by rw [R.out, RN.out]; simp), B4.out.trans ((BE.out.trans ((below_regrown wr dq osq).mono BE.out.size)).mono B4.out.size)⟩
                  · cases s2
                    · have HR := Lib.hid (HR0.out.trans (show _ = false by simp))
                      have RN := Lib.hid (show sameG eqD a.adv b.adv = false from sameG_not a.adv b.adv k _ _ HX.out HY.out HR.out)
                      clear HR0
                      go_wp2
                      refine wp_region_quiet_below (by kernel_rfl) (by kernel_rfl) ?_
                      repeat (go_big_quiet_step (first | (with_reducible exact CS.out _ _)))
                      refine wpQuiet_nil ?_
                      intro _ hw'
                      obtain ⟨⟨dq, osq⟩, hw''⟩ := hw'
                      subst hw''
                      go_wp2
                      go_ret
                      exact ⟨ret_b (by rw [R.out, RN.out]; simp), B4.out.trans ((BE.out.trans ((below_regrown wr dq osq).mono BE.out.size)).mono B4.out.size)⟩
                    · cases s3
                      · have HR := Lib.hid (HR0.out.trans (show _ = false by simp))
                        have RN := Lib.hid (show sameG eqD a.adv b.adv = false from sameG_not a.adv b.adv k _ _ HX.out HY.out HR.out)
                        clear HR0
                        go_wp2
                        refine wp_region_quiet_below (by kernel_rfl) (by kernel_rfl) ?_
                        repeat (go_big_quiet_step (first | (with_reducible exact CS.out _ _)))
                        refine wpQuiet_nil ?_
                        intro _ hw'
                        obtain ⟨⟨dq, osq⟩, hw''⟩ := hw'
                        subst hw''
                        go_wp2
                        go_ret
                        exact ⟨ret_b (by rw [R.out, RN.out]; simp), B4.out.trans ((BE.out.trans ((below_regrown wr dq osq).mono BE.out.size)).mono B4.out.size)⟩
                      · have HR := Lib.hid (HR0.out.trans (show _ = true by simp))
                        clear HR0
                        go_wp2
                        refine wp_region_quiet_below (by kernel_rfl) (by kernel_rfl) ?_
                        repeat (go_big_quiet_step (first | (with_reducible exact CS.out _ _)))
                        refine wpQuiet_nil ?_
                        intro _ hw'
                        obtain ⟨⟨dq, osq⟩, hw''⟩ := hw'
                        subst hw''
                        clear ix iy b2 b3 p0 q0 p1 q1 p2 q2 p3 q3 h1 h2
                        go_wp2
                        go_roundw
                        case rel => exact ⟨k + 1, by omega, by go_num, BE.out.trans ((below_regrown wr dq osq).mono BE.out.size), fun j x' y' hj h1 h2 => by
                          rcases Nat.lt_or_ge j k with h3 | h3
                          · exact AL.out j x' y' h3 h1 h2
                          · obtain rfl : j = k := by omega
                            have e1 := HX.out
                            have e2 := HY.out
                            rw [h1] at e1
                            rw [h2] at e2
                            rw [Option.some.inj e1, Option.some.inj e2]
                            exact HR.out⟩
                        case measure => simp [intOf]; omega
                · have RK := Lib.hid (show sameG eqD a.adv b.adv = true from sameG_all a.adv b.adv (by rw [← UDA.out.len, ← UDB.out.len]; have := LDA.out; have := LDB.out; omega) (fun j a b h1 h2 => AL.out j a b (by have := (List.getElem?_eq_some_iff.1 h1).1; have := UDA.out.len; have := LDA.out; omega) h1 h2))
                  have R := Lib.hid (R.out.trans (by rw [RK.out]))
                  obtain rfl : an = k := by omega
                  obtain ⟨wr1, hwr1⟩ : ∃ x, x = wr := ⟨_, rfl⟩
                  rw [← hwr1] at BE
                  have Br1 := Lib.hid (B4.out.trans (BE.out.mono B4.out.size))
                  have Xr := Lib.hid (X4.out.on BE.out)
                  have Yr := Lib.hid (Y4.out.on BE.out)
                  rw [← hwr1]
                  have z5 := Xr.out.cell 5
                  have zz := Yr.out.cell 5
                  simp only [List.getElem?_toArray, List.getElem?_cons_zero, List.getElem?_cons_succ] at z5 zz
                  clear hwr1 BE AL WX hlt
                  go_wp2
                  go_loopw [108] (fun i wr => ∃ k : Nat, k ≤ on_ ∧ i = .int .i64 k ∧ Below wr1.heap.size wr1 wr ∧ ∀ (j : Nat) (x y : Ow), j < k → a.own[j]? = some x → b.own[j]? = some y → eqW x y = true) (fun i _ => on_ - (intOf i).toNat)
                  case atStart => exact ⟨0, Nat.zero_le _, rfl, Below.refl _ _, fun j x y h => by omega⟩
                  case round =>
                    obtain ⟨k, hk, rfl, hbe, hall⟩ := hrel
                    have BE := Lib.hid hbe
                    have AL := Lib.hid hall
                    have WX := Lib.hid Br1.out
                    clear hbe hall
                    by_cases hlt : k < on_
                    · obtain ⟨x, hx⟩ : ∃ x, lWa[k]? = some x := ⟨_, List.getElem?_eq_getElem (by have := LWA.out; omega)⟩
                      obtain ⟨y, hy⟩ : ∃ y, lWb[k]? = some y := ⟨_, List.getElem?_eq_getElem (by have := LWB.out; omega)⟩
                      obtain ⟨p, ix, px⟩ := elW (RWA.out.on WX.out) rfl LWA.out.symm hx
                      obtain ⟨q, iy, py⟩ := elW (RWB.out.on WX.out) rfl LWB.out.symm hy
                      obtain ⟨sx, hsx, ix_⟩ := at_left UWA.out k x hx
                      obtain ⟨sy, hsy, iy_⟩ := at_left UWB.out k y hy
                      obtain ⟨x1, x2, xo, xn, xc⟩ := x
                      obtain ⟨y1, y2, yo, yn, yc⟩ := y
                      obtain ⟨ta, tp⟩ := sx
                      obtain ⟨va, vp⟩ := sy
                      obtain ⟨rfl, rx⟩ := ix_
                      obtain ⟨rfl, ry⟩ := iy_
                      have R0 := show eqW ⟨(x1, x2), tp⟩ ⟨(y1, y2), vp⟩ = (eqI (x1, x2) (y1, y2) && sameC tp vp) from rfl
                      have b2 := cell_regrown (show wr.cell? ⟨w.heap.size, 5, none⟩ = some (.slice oo on_ oc) from (Xr.out.on BE.out).cell 5)
                      have b3 := cell_regrown (show wr.cell? ⟨w.heap.size + 1, 5, none⟩ = some (.slice oo2 on_ oc2) from (Yr.out.on BE.out).cell 5)
                      have p0 := cell_regrown (px _ BE.out).1
                      have p1 := cell_regrown (px _ BE.out).2.1
                      have p2 := cell_regrown (px _ BE.out).2.2
                      have q0 := cell_regrown (py _ BE.out).1
                      have q1 := cell_regrown (py _ BE.out).2.1
                      have q2 := cell_regrown (py _ BE.out).2.2
                      have CS := Lib.hid (fun d os => Calls.regrown_of (d := d) (os := os) (sameC_any (.slice xo xn xc) (.slice yo yn yc) tp vp _ (((rx.on WX.out).on BE.out).on (below_regrown wr d os)) (((ry.on WX.out).on BE.out).on (below_regrown wr d os)) (SHA.out.2.2 _ _ hsx) (SHB.out.2.2 _ _ hsy)))
                      obtain ⟨s1, e1⟩ : ∃ r, eqI (x1, x2) (y1, y2) = r := ⟨_, rfl⟩
                      obtain ⟨s3, e3⟩ : ∃ r, sameC tp vp = r := ⟨_, rfl⟩
                      have h1 := neId x1 x2 y1 y2 (!s1) (by rw [← e1]; rfl)
                      rw [e3] at CS
                      rw [e1, e3] at R0
                      have HX := Lib.hid hsx
                      have HY := Lib.hid hsy
                      have HR0 := Lib.hid R0
                      clear px py hx hy hsx hsy rx ry R0 e1 e3
                      cases s1
                      · have HR := Lib.hid (HR0.out.trans (show _ = false by simp))
                        have RN := Lib.hid (show sameG eqW a.own b.own = false from sameG_not a.own b.own k _ _ HX.out HY.out HR.out)
                        clear HR0
                        go_wp2
                        refine wp_region_quiet_below (by kernel_rfl) (by kernel_rfl) ?_
                        repeat (go_big_quiet_step (first | (with_reducible exact CS.out _ _)))
                        refine wpQuiet_nil ?_
                        intro _ hw'
                        obtain ⟨⟨dq, osq⟩, hw''⟩ := hw'
                        subst hw''
                        go_wp2
                        go_ret
                        exact ⟨ret_b (by rw [R.out, RN.out]; simp), Br1.out.trans ((BE.out.trans ((below_regrown wr dq osq).mono BE.out.size)).mono Br1.out.size)⟩
                      · cases s3
                        · have HR := Lib.hid (HR0.out.trans (show _ = false by simp))
                          have RN := Lib.hid (show sameG eqW a.own b.own = false from sameG_not a.own b.own k _ _ HX.out HY.out HR.out)
                          clear HR0
                          go_wp2
                          refine wp_region_quiet_below (by kernel_rfl) (by kernel_rfl) ?_
                          repeat (go_big_quiet_step (first | (with_reducible exact CS.out _ _)))
                          refine wpQuiet_nil ?_
                          intro _ hw'
                          obtain ⟨⟨dq, osq⟩, hw''⟩ := hw'
                          subst hw''
                          go_wp2
                          go_ret
                          exact ⟨ret_b (by rw [R.out, RN.out]; simp), Br1.out.trans ((BE.out.trans ((below_regrown wr dq osq).mono BE.out.size)).mono Br1.out.size)⟩
                        · have HR := Lib.hid (HR0.out.trans (show _ = true by simp))
                          clear HR0
                          go_wp2
                          refine wp_region_quiet_below (by kernel_rfl) (by kernel_rfl) ?_
                          repeat (go_big_quiet_step (first | (with_reducible exact CS.out _ _)))
                          refine wpQuiet_nil ?_
                          intro _ hw'
                          obtain ⟨⟨dq, osq⟩, hw''⟩ := hw'
                          subst hw''
                          clear ix iy b2 b3 p0 q0 p1 q1 p2 q2 h1
                          go_wp2
                          go_roundw
                          case rel => exact ⟨k + 1, by omega, by go_num, BE.out.trans ((below_regrown wr dq osq).mono BE.out.size), fun j x' y' hj h1 h2 => by
                            rcases Nat.lt_or_ge j k with h3 | h3
                            · exact AL.out j x' y' h3 h1 h2
                            · obtain rfl : j = k := by omega
                              have e1 := HX.out
                              have e2 := HY.out
                              rw [h1] at e1
                              rw [h2] at e2
                              rw [Option.some.inj e1, Option.some.inj e2]
                              exact HR.out⟩
                          case measure => simp [intOf]; omega
                    · have RK := Lib.hid (show sameG eqW a.own b.own = true from sameG_all a.own b.own (by rw [← UWA.out.len, ← UWB.out.len]; have := LWA.out; have := LWB.out; omega) (fun j a b h1 h2 => AL.out j a b (by have := (List.getElem?_eq_some_iff.1 h1).1; have := UWA.out.len; have := LWA.out; omega) h1 h2))
                      have R := Lib.hid (R.out.trans (by rw [RK.out]))
                      obtain rfl : on_ = k := by omega
                      go_wp2
                      go_ret
                      exact ⟨ret_b (by rw [R.out]; simp), Br1.out.trans (BE.out.mono Br1.out.size)⟩
          · have k4 : r4 = false := by rw [← E4.out]; exact decide_eq_false (by rw [← UWA.out.len, ← UWB.out.len]; have := LWA.out; have := LWB.out; omega)
            subst k4
            have n1 : ((on_ : Int) != (on_2 : Int)) = true := by simp; omega
            have n2 : ((on_ : Int) == (on_2 : Int)) = false := by simp; omega
            go_wp2
            go_ret
            exact ⟨ret_b (by rw [R.out]; simp), B2.out⟩
        · have k3 : r3 = false := by rw [← E3.out]; exact decide_eq_false (by rw [← UDA.out.len, ← UDB.out.len]; have := LDA.out; have := LDB.out; omega)
          subst k3
          have n1 : ((an : Int) != (an2 : Int)) = true := by simp; omega
          have n2 : ((an : Int) == (an2 : Int)) = false := by simp; omega
          go_wp2
          go_ret
          exact ⟨ret_b (by rw [R.out]; simp), B2.out⟩
end Go.Proofs.YtonoadjmglkhaaaGreat.Bk
