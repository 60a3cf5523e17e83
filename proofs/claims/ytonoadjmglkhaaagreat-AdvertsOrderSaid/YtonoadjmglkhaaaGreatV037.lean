/-
  slices.Equal of numbers, of IDs, of constraints; Same of package pred. Condition: at most a million elements.
  Are two of package adverts' advertisements alike; slices.EqualFunc over them. Condition: predicates of at most a million constraints.
  Are two of package adverts' entries alike; slices.EqualFunc over them. Condition: predicates of at most a million constraints.
-/
import Derived.Test.YtonoadjmglkhaaaGreatV016
import Derived.Test.YtonoadjmglkhaaaGreatV035
import Derived.Test.YtonoadjmglkhaaaGreatV010
import Derived.Test.YtonoadjmglkhaaaGreatV034
import Derived.Test.YtonoadjmglkhaaaGreatV036
namespace Go.Proofs.YtonoadjmglkhaaaGreat.Av
open Go.RowKit Go.Sort Go.Proofs.YtonoadjmglkhaaaGreat Go.Proofs.YtonoadjmglkhaaaGreat.Rw Go.Proofs.YtonoadjmglkhaaaGreat.Nm Go.Proofs.YtonoadjmglkhaaaGreat.Pr Go.Proofs.YtonoadjmglkhaaaGreat.Bk

def eqZ (x y : Int) : Bool := x == y
theorem eqZ_iff (x y : Int) : eqZ x y = true ↔ x = y := by simp [eqZ]
set_option maxRecDepth 100000 in
set_option maxHeartbeats 4000000 in
theorem eqI_any (av_ bv : Value) (l m : List Int) (w : World) (ha : RowI w av_ l) (hb : RowI w bv m) (hl : l.length ≤ 1000000) :
    Calls Tryz.prog 45 #[av_, bv] w fun e w' => e = .returned (.bool (sameG eqZ l m)) ∧ Below w.heap.size w w' := by
  have HA := Lib.hid ha
  have HB := Lib.hid hb
  obtain ⟨ao, ac, rfl⟩ := ha.len
  obtain ⟨bo, bc, rfl⟩ := hb.len
  clear ha hb
  by_cases hlen : l.length = m.length
  · have HL := Lib.hid hlen
    rw [← hlen] at HB ⊢
    generalize hn : l.length = n at *
    have HN := Lib.hid hn
    clear hlen hn
    go_enter Tryz.func45, Tryz.ntmps45
    go_wp2
    go_loopw [13] (fun i wr => ∃ k : Nat, k ≤ n ∧ i = .int .i64 k ∧ Below w.heap.size w wr ∧ ∀ (j : Nat) (x y : Int), j < k → l[j]? = some x → m[j]? = some y → eqZ x y = true) (fun i _ => n - (intOf i).toNat)
    case atStart => exact ⟨0, Nat.zero_le _, rfl, Below.refl _ _, fun j x y h => by omega⟩
    case round =>
      obtain ⟨k, hk, rfl, hbe, hall⟩ := hrel
      have BE := Lib.hid hbe
      have AL := Lib.hid hall
      clear hbe hall
      by_cases hlt : k < n
      · obtain ⟨x, hx⟩ : ∃ x, l[k]? = some x := ⟨_, List.getElem?_eq_getElem (by rw [HN.out]; exact hlt)⟩
        obtain ⟨y, hy⟩ : ∃ y, m[k]? = some y := ⟨_, List.getElem?_eq_getElem (by rw [← HL.out]; exact hlt)⟩
        obtain ⟨p, ix, px⟩ := elI HA.out rfl HN.out hx
        obtain ⟨q, iy, py⟩ := elI HB.out rfl HL.out.symm hy
        have p0 := cell_regrown (px.2 _ BE.out)
        have q0 := cell_regrown (py.2 _ BE.out)
        clear px py
        obtain ⟨r, hr⟩ : ∃ r, eqZ x y = r := ⟨_, rfl⟩
        have hne : (x != y) = !r := by rw [← hr]; rfl
        have HX := Lib.hid hx
        have HY := Lib.hid hy
        have HR := Lib.hid hr
        clear hx hy hr
        cases r
        · have R := Lib.hid (show sameG eqZ l m = false from sameG_not l m k x y HX.out HY.out HR.out)
          go_wp2
          refine wp_region_quiet_below (by kernel_rfl) (by kernel_rfl) ?_
          repeat (go_big_quiet_step (fail))
          refine wpQuiet_nil ?_
          intro _ hw'
          obtain ⟨⟨dq, osq⟩, hw''⟩ := hw'
          subst hw''
          go_wp2
          go_ret
          exact ⟨by rw [R.out]; rfl, BE.out.trans ((below_regrown wr dq osq).mono BE.out.size)⟩
        · go_wp2
          refine wp_region_quiet_below (by kernel_rfl) (by kernel_rfl) ?_
          repeat (go_big_quiet_step (fail))
          refine wpQuiet_nil ?_
          intro _ hw'
          obtain ⟨⟨dq, osq⟩, hw''⟩ := hw'
          subst hw''
          clear ix iy p0 q0 hne
          go_wp2
          go_roundw
          case rel => exact ⟨k + 1, by omega, by go_num, BE.out.trans ((below_regrown wr dq osq).mono BE.out.size), fun j x' y' hj h1 h2 => by
            rcases Nat.lt_or_ge j k with h3 | h3
            · exact AL.out j x' y' h3 h1 h2
            · obtain rfl : j = k := by omega
              have e1 := HX.out
              have e2 := HY.out
              rw [h1] at e1
              rw [h2] at e2
              rw [Option.some.inj e1, Option.some.inj e2]
              exact HR.out⟩
          case measure => simp [intOf]; omega
      · obtain rfl : k = n := by omega
        have R := Lib.hid (show sameG eqZ l m = true from sameG_all l m (by rw [HN.out]; exact HL.out) (fun j a b h1 h2 => AL.out j a b (by have := (List.getElem?_eq_some_iff.1 h1).1; have := HN.out; omega) h1 h2))
        go_wp2
        go_ret
        exact ⟨by rw [R.out]; rfl, BE.out⟩
  · have R := Lib.hid (show sameG eqZ l m = false by
      cases h : sameG eqZ l m
      · rfl
      · exact absurd (sameG_len _ _ h) hlen)
    have hne : (((l.length : Nat) : Int) != ((m.length : Nat) : Int)) = true := by simp; omega
    have hne2 : (((l.length : Nat) : Int) == ((m.length : Nat) : Int)) = false := by simp; omega
    clear hlen
    go_enter Tryz.func45, Tryz.ntmps45
    go_wp2
    go_ret
    exact ⟨by rw [R.out]; rfl, Below.refl _ _⟩

set_option maxRecDepth 100000 in
set_option maxHeartbeats 4000000 in
theorem eqJ_any (av_ bv : Value) (l m : List XID) (w : World) (ha : RowJ w av_ l) (hb : RowJ w bv m) (hl : l.length ≤ 1000000) :
    Calls Tryz.prog 46 #[av_, bv] w fun e w' => e = .returned (.bool (sameG eqI l m)) ∧ Below w.heap.size w w' := by
  have HA := Lib.hid ha
  have HB := Lib.hid hb
  obtain ⟨ao, ac, rfl⟩ := ha.len
  obtain ⟨bo, bc, rfl⟩ := hb.len
  clear ha hb
  by_cases hlen : l.length = m.length
  · have HL := Lib.hid hlen
    rw [← hlen] at HB ⊢
    generalize hn : l.length = n at *
    have HN := Lib.hid hn
    clear hlen hn
    go_enter Tryz.func46, Tryz.ntmps46
    go_wp2
    go_loopw [13] (fun i wr => ∃ k : Nat, k ≤ n ∧ i = .int .i64 k ∧ Below w.heap.size w wr ∧ ∀ (j : Nat) (x y : XID), j < k → l[j]? = some x → m[j]? = some y → eqI x y = true) (fun i _ => n - (intOf i).toNat)
    case atStart => exact ⟨0, Nat.zero_le _, rfl, Below.refl _ _, fun j x y h => by omega⟩
    case round =>
      obtain ⟨k, hk, rfl, hbe, hall⟩ := hrel
      have BE := Lib.hid hbe
      have AL := Lib.hid hall
      clear hbe hall
      by_cases hlt : k < n
      · obtain ⟨x, hx⟩ : ∃ x, l[k]? = some x := ⟨_, List.getElem?_eq_getElem (by rw [HN.out]; exact hlt)⟩
        obtain ⟨y, hy⟩ : ∃ y, m[k]? = some y := ⟨_, List.getElem?_eq_getElem (by rw [← HL.out]; exact hlt)⟩
        obtain ⟨p, ix, px⟩ := elJ HA.out rfl HN.out hx
        obtain ⟨q, iy, py⟩ := elJ HB.out rfl HL.out.symm hy
        have p0 := cell_regrown (px _ BE.out).1
        have p1 := cell_regrown (px _ BE.out).2
        have q0 := cell_regrown (py _ BE.out).1
        have q1 := cell_regrown (py _ BE.out).2
        clear px py
        obtain ⟨r, hr⟩ : ∃ r, eqI x y = r := ⟨_, rfl⟩
        have hne := neId x.1 x.2 y.1 y.2 (!r) (by rw [← hr]; rfl)
        have HX := Lib.hid hx
        have HY := Lib.hid hy
        have HR := Lib.hid hr
        clear hx hy hr
        cases r
        · have R := Lib.hid (show sameG eqI l m = false from sameG_not l m k x y HX.out HY.out HR.out)
          go_wp2
          refine wp_region_quiet_below (by kernel_rfl) (by kernel_rfl) ?_
          repeat (go_big_quiet_step (fail))
          refine wpQuiet_nil ?_
          intro _ hw'
          obtain ⟨⟨dq, osq⟩, hw''⟩ := hw'
          subst hw''
          go_wp2
          go_ret
          exact ⟨by rw [R.out]; rfl, BE.out.trans ((below_regrown wr dq osq).mono BE.out.size)⟩
        · go_wp2
          refine wp_region_quiet_below (by kernel_rfl) (by kernel_rfl) ?_
          repeat (go_big_quiet_step (fail))
          refine wpQuiet_nil ?_
          intro _ hw'
          obtain ⟨⟨dq, osq⟩, hw''⟩ := hw'
          subst hw''
          clear ix iy p0 p1 q0 q1 hne
          go_wp2
          go_roundw
          case rel => exact ⟨k + 1, by omega, by go_num, BE.out.trans ((below_regrown wr dq osq).mono BE.out.size), fun j x' y' hj h1 h2 => by
            rcases Nat.lt_or_ge j k with h3 | h3
            · exact AL.out j x' y' h3 h1 h2
            · obtain rfl : j = k := by omega
              have e1 := HX.out
              have e2 := HY.out
              rw [h1] at e1
              rw [h2] at e2
              rw [Option.some.inj e1, Option.some.inj e2]
              exact HR.out⟩
          case measure => simp [intOf]; omega
      · obtain rfl : k = n := by omega
        have R := Lib.hid (show sameG eqI l m = true from sameG_all l m (by rw [HN.out]; exact HL.out) (fun j a b h1 h2 => AL.out j a b (by have := (List.getElem?_eq_some_iff.1 h1).1; have := HN.out; omega) h1 h2))
        go_wp2
        go_ret
        exact ⟨by rw [R.out]; rfl, BE.out⟩
  · have R := Lib.hid (show sameG eqI l m = false by
      cases h : sameG eqI l m
      · rfl
      · exact absurd (sameG_len _ _ h) hlen)
    have hne : (((l.length : Nat) : Int) != ((m.length : Nat) : Int)) = true := by simp; omega
    have hne2 : (((l.length : Nat) : Int) == ((m.length : Nat) : Int)) = false := by simp; omega
    clear hlen
    go_enter Tryz.func46, Tryz.ntmps46
    go_wp2
    go_ret
    exact ⟨by rw [R.out]; rfl, Below.refl _ _⟩

set_option maxRecDepth 100000 in
set_option maxHeartbeats 4000000 in
theorem eqC_any (av_ bv : Value) (l m : List C5) (w : World) (ha : RowC w av_ l) (hb : RowC w bv m) (hl : l.length ≤ 1000000) :
    Calls Tryz.prog 120 #[av_, bv] w fun e w' => e = .returned (.bool (sameC l m)) ∧ Below w.heap.size w w' := by
  have HA := Lib.hid ha
  have HB := Lib.hid hb
  obtain ⟨ao, ac, rfl⟩ := ha.len
  obtain ⟨bo, bc, rfl⟩ := hb.len
  clear ha hb
  by_cases hlen : l.length = m.length
  · have HL := Lib.hid hlen
    rw [← hlen] at HB ⊢
    generalize hn : l.length = n at *
    have HN := Lib.hid hn
    clear hlen hn
    go_enter Tryz.func120, Tryz.ntmps120
    go_wp2
    go_loopw [13] (fun i wr => ∃ k : Nat, k ≤ n ∧ i = .int .i64 k ∧ Below w.heap.size w wr ∧ ∀ (j : Nat) (x y : C5), j < k → l[j]? = some x → m[j]? = some y → eqlC x y = true) (fun i _ => n - (intOf i).toNat)
    case atStart => exact ⟨0, Nat.zero_le _, rfl, Below.refl _ _, fun j x y h => by omega⟩
    case round =>
      obtain ⟨k, hk, rfl, hbe, hall⟩ := hrel
      have BE := Lib.hid hbe
      have AL := Lib.hid hall
      clear hbe hall
      by_cases hlt : k < n
      · obtain ⟨x, hx⟩ : ∃ x, l[k]? = some x := ⟨_, List.getElem?_eq_getElem (by rw [HN.out]; exact hlt)⟩
        obtain ⟨y, hy⟩ : ∃ y, m[k]? = some y := ⟨_, List.getElem?_eq_getElem (by rw [← HL.out]; exact hlt)⟩
        obtain ⟨p, ix, px⟩ := elC HA.out rfl HN.out hx
        obtain ⟨q, iy, py⟩ := elC HB.out rfl HL.out.symm hy
        have p0 := cell_regrown (px _ BE.out).1
        have p1 := cell_regrown (px _ BE.out).2.1
        have p2 := cell_regrown (px _ BE.out).2.2.1
        have p3 := cell_regrown (px _ BE.out).2.2.2.1
        have p4 := cell_regrown (px _ BE.out).2.2.2.2
        have q0 := cell_regrown (py _ BE.out).1
        have q1 := cell_regrown (py _ BE.out).2.1
        have q2 := cell_regrown (py _ BE.out).2.2.1
        have q3 := cell_regrown (py _ BE.out).2.2.2.1
        have q4 := cell_regrown (py _ BE.out).2.2.2.2
        clear px py
        obtain ⟨r, hr⟩ : ∃ r, eqlC x y = r := ⟨_, rfl⟩
        have hne := neqC x y r hr
        have HX := Lib.hid hx
        have HY := Lib.hid hy
        have HR := Lib.hid hr
        clear hx hy hr
        cases r
        · have R := Lib.hid (show sameC l m = false from sameC_not l m k x y HX.out HY.out HR.out)
          go_wp2
          refine wp_region_quiet_below (by kernel_rfl) (by kernel_rfl) ?_
          repeat (go_big_quiet_step (fail))
          refine wpQuiet_nil ?_
          intro _ hw'
          obtain ⟨⟨dq, osq⟩, hw''⟩ := hw'
          subst hw''
          go_wp2
          go_ret
          exact ⟨by rw [R.out]; rfl, BE.out.trans ((below_regrown wr dq osq).mono BE.out.size)⟩
        · go_wp2
          refine wp_region_quiet_below (by kernel_rfl) (by kernel_rfl) ?_
          repeat (go_big_quiet_step (fail))
          refine wpQuiet_nil ?_
          intro _ hw'
          obtain ⟨⟨dq, osq⟩, hw''⟩ := hw'
          subst hw''
          clear ix iy p0 p1 p2 p3 p4 q0 q1 q2 q3 q4 hne
          go_wp2
          go_roundw
          case rel => exact ⟨k + 1, by omega, by go_num, BE.out.trans ((below_regrown wr dq osq).mono BE.out.size), fun j x' y' hj h1 h2 => by
            rcases Nat.lt_or_ge j k with h3 | h3
            · exact AL.out j x' y' h3 h1 h2
            · obtain rfl : j = k := by omega
              have e1 := HX.out
              have e2 := HY.out
              rw [h1] at e1
              rw [h2] at e2
              rw [Option.some.inj e1, Option.some.inj e2]
              exact HR.out⟩
          case measure => simp [intOf]; omega
      · obtain rfl : k = n := by omega
        have R := Lib.hid (show sameC l m = true from sameC_all l m (by rw [HN.out]; exact HL.out) (fun j a b h1 h2 => AL.out j a b (by have := (List.getElem?_eq_some_iff.1 h1).1; have := HN.out; omega) h1 h2))
        go_wp2
        go_ret
        exact ⟨by rw [R.out]; rfl, BE.out⟩
  · have R := Lib.hid (show sameC l m = false by
      cases h : sameC l m
      · rfl
      · exact absurd (sameC_len _ _ h) hlen)
    have hne : (((l.length : Nat) : Int) != ((m.length : Nat) : Int)) = true := by simp; omega
    have hne2 : (((l.length : Nat) : Int) == ((m.length : Nat) : Int)) = false := by simp; omega
    clear hlen
    go_enter Tryz.func120, Tryz.ntmps120
    go_wp2
    go_ret
    exact ⟨by rw [R.out]; rfl, Below.refl _ _⟩

set_option maxRecDepth 100000 in
theorem psame_any (av_ bv : Value) (l m : List C5) (w : World) (ha : RowC w av_ l) (hb : RowC w bv m) (hl : l.length ≤ 1000000) : Calls Tryz.prog 91 #[av_, bv] w fun e w' => e = .returned (.bool (sameC l m)) ∧ Below w.heap.size w w' := by
  have C := Lib.hid (eqC_any av_ bv l m w ha hb hl)
  obtain ⟨ao, ac, rfl⟩ := ha.len
  obtain ⟨bo, bc, rfl⟩ := hb.len
  clear ha hb
  go_enter Tryz.func91, Tryz.ntmps91
  go_wp2_with fail
  refine C.out.mono ?_
  rintro e w' ⟨rfl, hb⟩
  have HB := Lib.hid hb
  clear hb
  go_wp2
  go_ret
  exact ⟨rfl, HB.out⟩
end Go.Proofs.YtonoadjmglkhaaaGreat.Av

namespace Go.Proofs.YtonoadjmglkhaaaGreat.Av
open Go.RowKit Go.Sort Go.Proofs.YtonoadjmglkhaaaGreat Go.Proofs.YtonoadjmglkhaaaGreat.Rw Go.Proofs.YtonoadjmglkhaaaGreat.Nm Go.Proofs.YtonoadjmglkhaaaGreat.Pr Go.Proofs.YtonoadjmglkhaaaGreat.Bk

set_option maxRecDepth 100000 in
set_option maxHeartbeats 8000000 in
theorem sameD_any (x y : XAd) (a b : Ad) (w : World) (hx : AdIn w x a) (hy : AdIn w y b) (hl : a.p.length ≤ 1000000) : Calls Tryz.prog 48 #[valD x, valD y] w fun e w' => e = .returned (.bool (eqD a b)) ∧ Below w.heap.size w w' := by
  obtain ⟨x1, x2, ⟨xo, xn, xc⟩, x4⟩ := x
  obtain ⟨y1, y2, ⟨yo, yn, yc⟩, y4⟩ := y
  obtain ⟨gi, gp, gr⟩ := hx
  obtain ⟨ki, kp, kr⟩ := hy
  have ER : eqD a b = ((x1 == y1 && x2 == y2) && ((x4 == y4) && sameC a.p b.p)) := by
    unfold eqD
    rw [← gi, ← ki, ← gp, ← kp]
    rfl
  rw [ER]
  obtain ⟨h0, X, Y⟩ := two_new w #[.int .i64 x1, .int .i64 x2, .slice xo xn xc, .int .i64 x4] #[.int .i64 y1, .int .i64 y2, .slice yo yn yc, .int .i64 y4] 42 42
  have C := Lib.hid (psame_any _ _ a.p b.p _ (gr.on h0) (kr.on h0) hl)
  have cx0 := X.cell 0
  have cx1 := X.cell 1
  have cx2 := X.cell 2
  have cx3 := X.cell 3
  have cy0 := Y.cell 0
  have cy1 := Y.cell 1
  have cy2 := Y.cell 2
  have cy3 := Y.cell 3
  simp only [List.getElem?_toArray, List.getElem?_cons_zero, List.getElem?_cons_succ] at cx0 cx1 cx2 cx3 cy0 cy1 cy2 cy3
  have B0 := Lib.hid h0
  clear h0 X Y gr kr hl ER gi gp ki kp
  obtain ⟨r0, hr0⟩ : ∃ r, (x1 == y1 && x2 == y2) = r := ⟨_, rfl⟩
  have he0 := eqId x1 x2 y1 y2 r0 hr0
  obtain ⟨r1, hr1⟩ : ∃ r, (x4 == y4) = r := ⟨_, rfl⟩
  rw [hr0, hr1]
  clear hr0
  obtain ⟨rs, hrs⟩ : ∃ r, sameC a.p b.p = r := ⟨_, rfl⟩
  rw [hrs] at C ⊢
  clear hrs
  go_enter Tryz.func48, Tryz.ntmps48
  cases r0
  · go_wp2_with fail
    go_ret
    exact ⟨rfl, B0.out⟩
  · cases r1
    · go_wp2_with fail
      go_ret
      exact ⟨rfl, B0.out⟩
    · go_wp2_with fail
      refine C.out.mono ?_
      rintro e w1 ⟨rfl, hb⟩
      have BB := Lib.hid (B0.out.trans (hb.mono B0.out.size))
      clear hb
      go_wp2
      go_ret
      exact ⟨rfl, BB.out⟩
set_option maxRecDepth 100000 in
set_option maxHeartbeats 8000000 in
theorem eqfD_any (v u : Sl) (l m : List XAd) (al bl : List Ad) (w : World) (ha : Row ED w (slv v) l) (hb : Row ED w (slv u) m) (hA : All2 (AdIn w) l al) (hB : All2 (AdIn w) m bl) (hs : ∀ a ∈ al, a.p.length ≤ 1000000) :
    Calls Tryz.prog 47 #[slv v, slv u, .func (.func 48) #[] #[]] w fun e w' => e = .returned (.bool (sameG eqD al bl)) ∧ Below w.heap.size w w' := by
  obtain ⟨so, sn, sc⟩ := v
  obtain ⟨uo, un, uc⟩ := u
  obtain ⟨ao, ac, hv⟩ := ha.len
  have hv : Value.slice so sn sc = .slice ao l.length ac := hv
  obtain ⟨rfl, rfl, rfl⟩ : so = ao ∧ sn = l.length ∧ sc = ac := by simpa using hv
  obtain ⟨ao, ac, hv2⟩ := hb.len
  have hv2 : Value.slice uo un uc = .slice ao m.length ac := hv2
  obtain ⟨rfl, rfl, rfl⟩ : uo = ao ∧ un = m.length ∧ uc = ac := by simpa using hv2
  have RA := Lib.hid ha
  have RB := Lib.hid hb
  have LA := Lib.hid hA
  have LB := Lib.hid hB
  have HS := Lib.hid hs
  have ma := ha.most
  unfold maxLen at ma
  clear ha hb hA hB hs hv hv2
  by_cases hlen : l.length = m.length
  · have HL := Lib.hid hlen
    rw [← hlen] at RB ⊢
    generalize hn : l.length = n at *
    have HN := Lib.hid hn
    clear hlen hn
    go_enter Tryz.func47, Tryz.ntmps47
    go_wp2
    go_loopw [17] (fun i wr => ∃ k : Nat, k ≤ n ∧ i = .int .i64 k ∧ Below w.heap.size w wr ∧ ∀ (j : Nat) (x y : Ad), j < k → al[j]? = some x → bl[j]? = some y → eqD x y = true) (fun i _ => n - (intOf i).toNat)
    case atStart => exact ⟨0, Nat.zero_le _, rfl, Below.refl _ _, fun j x y h => by omega⟩
    case round =>
      obtain ⟨k, hk, rfl, hbe, hall⟩ := hrel
      have BE := Lib.hid hbe
      have AL := Lib.hid hall
      clear hbe hall
      by_cases hlt : k < n
      · obtain ⟨a, hak⟩ : ∃ a, al[k]? = some a := ⟨_, List.getElem?_eq_getElem (by rw [← LA.out.len, HN.out]; exact hlt)⟩
        obtain ⟨b, hbk⟩ : ∃ b, bl[k]? = some b := ⟨_, List.getElem?_eq_getElem (by rw [← LB.out.len, ← HL.out]; exact hlt)⟩
        obtain ⟨x, hx, ix⟩ := LA.out.at k a hak
        obtain ⟨y, hy, iy⟩ := LB.out.at k b hbk
        obtain ⟨p, jx, px⟩ := elD RA.out rfl HN.out hx
        obtain ⟨q, jy, py⟩ := elD RB.out rfl HL.out.symm hy
        obtain ⟨p0, p1, p2, p3⟩ := px wr BE.out
        have hs1 := HS.out a (List.mem_of_getElem? hak)
        have CC := fun W' (h : Below w.heap.size w W') => sameD_any x y a b W' (ix.on h) (iy.on h) hs1
        have HAK := Lib.hid hak
        have HBK := Lib.hid hbk
        clear hx hy hak hbk hs1 px ix iy
        obtain ⟨x1, x2, ⟨xo, xn, xc⟩, x4⟩ := x
        obtain ⟨y1, y2, ⟨yo, yn, yc⟩, y4⟩ := y
        simp only at p0 p1 p2 p3
        have N1 := newB wr (.cells #[.int .i64 x1, .int .i64 x2, .slice xo xn xc, .int .i64 x4] 42)
        have N2 := newB (wr.alloc (.cells #[.int .i64 x1, .int .i64 x2, .slice xo xn xc, .int .i64 x4] 42)) (.cells #[.int .i64 y1, .int .i64 y2, .slice yo yn yc, .int .i64 y4] 42)
        have BN := Lib.hid (BE.out.trans ((N1.trans (N2.mono N1.size)).mono BE.out.size))
        obtain ⟨q0, q1, q2, q3⟩ := py _ (BE.out.trans (N1.mono BE.out.size))
        have hX := (box_new wr #[.int .i64 x1, .int .i64 x2, .slice xo xn xc, .int .i64 x4] 42).on N2
        have hY := box_new (wr.alloc (.cells #[.int .i64 x1, .int .i64 x2, .slice xo xn xc, .int .i64 x4] 42)) #[.int .i64 y1, .int .i64 y2, .slice yo yn yc, .int .i64 y4] 42
        have hsz : (wr.alloc (.cells #[.int .i64 x1, .int .i64 x2, .slice xo xn xc, .int .i64 x4] 42)).heap.size = wr.heap.size + 1 := by simp
        rw [hsz] at hY
        have ex0 := hX.cell 0
        have ex1 := hX.cell 1
        have ex2 := hX.cell 2
        have ex3 := hX.cell 3
        have ey0 := hY.cell 0
        have ey1 := hY.cell 1
        have ey2 := hY.cell 2
        have ey3 := hY.cell 3
        simp only [List.getElem?_toArray, List.getElem?_cons_zero, List.getElem?_cons_succ] at ex0 ex1 ex2 ex3 ey0 ey1 ey2 ey3
        simp only at q0 q1 q2 q3
        have hw3 : IntKind.i64.wrap ((k : Int) + 1) = (k : Int) + 1 := IntWalk.i64_in _ (by omega)
        have C := Lib.hid (CC _ BN.out)
        obtain ⟨r, hr⟩ : ∃ r, eqD a b = r := ⟨_, rfl⟩
        rw [hr] at C
        have HR := Lib.hid hr
        clear CC hr N1 N2 hX hY hsz py
        go_wp2_with fail
        refine C.out.mono ?_
        rintro e w1 ⟨rfl, hb⟩
        have BB := Lib.hid (BN.out.trans (hb.mono BN.out.size))
        clear hb C p0 p1 p2 p3 q0 q1 q2 q3 ex0 ex1 ex2 ex3 ey0 ey1 ey2 ey3 jx jy
        cases r
        · have R := Lib.hid (show sameG eqD al bl = false from sameG_not al bl k a b HAK.out HBK.out HR.out)
          go_wp2
          go_ret
          exact ⟨by rw [R.out]; rfl, BB.out⟩
        · go_wp2
          go_roundw
          case rel => exact ⟨k + 1, by omega, by go_num, BB.out, fun j x' y' hj h1 h2 => by
            rcases Nat.lt_or_ge j k with h3 | h3
            · exact AL.out j x' y' h3 h1 h2
            · obtain rfl : j = k := by omega
              have e1 := HAK.out
              have e2 := HBK.out
              rw [h1] at e1
              rw [h2] at e2
              rw [Option.some.inj e1, Option.some.inj e2]
              exact HR.out⟩
          case measure => simp [intOf]; omega
      · obtain rfl : k = n := by omega
        have R := Lib.hid (show sameG eqD al bl = true from sameG_all al bl (by rw [← LA.out.len, ← LB.out.len, HN.out]; exact HL.out) (fun j a b h1 h2 => AL.out j a b (by have := (List.getElem?_eq_some_iff.1 h1).1; have := HN.out; have := LA.out.len; omega) h1 h2))
        go_wp2
        go_ret
        exact ⟨by rw [R.out]; rfl, BE.out⟩
  · have R := Lib.hid (show sameG eqD al bl = false by
      cases h : sameG eqD al bl
      · rfl
      · exact absurd ((LA.out.len.trans (sameG_len _ _ h)).trans LB.out.len.symm) hlen)
    have hne : (((l.length : Nat) : Int) != ((m.length : Nat) : Int)) = true := by simp; omega
    have hne2 : (((l.length : Nat) : Int) == ((m.length : Nat) : Int)) = false := by simp; omega
    clear hlen
    go_enter Tryz.func47, Tryz.ntmps47
    go_wp2
    go_ret
    exact ⟨by rw [R.out]; rfl, Below.refl _ _⟩
end Go.Proofs.YtonoadjmglkhaaaGreat.Av

namespace Go.Proofs.YtonoadjmglkhaaaGreat.Av
open Go.RowKit Go.Sort Go.Proofs.YtonoadjmglkhaaaGreat Go.Proofs.YtonoadjmglkhaaaGreat.Rw Go.Proofs.YtonoadjmglkhaaaGreat.Nm Go.Proofs.YtonoadjmglkhaaaGreat.Pr Go.Proofs.YtonoadjmglkhaaaGreat.Bk

set_option maxRecDepth 100000 in
set_option maxHeartbeats 8000000 in
theorem sameN_any (x y : XEn) (a b : En) (w : World) (hx : EnIn w x a) (hy : EnIn w y b) (hl : a.p.length ≤ 1000000) : Calls Tryz.prog 50 #[valN x, valN y] w fun e w' => e = .returned (.bool (eqE a b)) ∧ Below w.heap.size w w' := by
  obtain ⟨x1, x2, x3, x4, ⟨xo, xn, xc⟩, x6, x7⟩ := x
  obtain ⟨y1, y2, y3, y4, ⟨yo, yn, yc⟩, y6, y7⟩ := y
  obtain ⟨gi, gj, gp, gq, gr⟩ := hx
  obtain ⟨ki, kj, kp, kq, kr⟩ := hy
  have ER : eqE a b = ((x1 == y1 && x2 == y2) && ((x3 == y3 && x4 == y4) && ((x6 == y6) && ((x7 == y7) && sameC a.p b.p)))) := by
    unfold eqE
    rw [← gi, ← ki, ← gj, ← kj, ← gp, ← kp, ← gq, ← kq]
    rfl
  rw [ER]
  obtain ⟨h0, X, Y⟩ := two_new w #[.int .i64 x1, .int .i64 x2, .int .i64 x3, .int .i64 x4, .slice xo xn xc, .int .i64 x6, .bool x7] #[.int .i64 y1, .int .i64 y2, .int .i64 y3, .int .i64 y4, .slice yo yn yc, .int .i64 y6, .bool y7] 58 58
  have C := Lib.hid (psame_any _ _ a.p b.p _ (gr.on h0) (kr.on h0) hl)
  have cx0 := X.cell 0
  have cx1 := X.cell 1
  have cx2 := X.cell 2
  have cx3 := X.cell 3
  have cx4 := X.cell 4
  have cx5 := X.cell 5
  have cx6 := X.cell 6
  have cy0 := Y.cell 0
  have cy1 := Y.cell 1
  have cy2 := Y.cell 2
  have cy3 := Y.cell 3
  have cy4 := Y.cell 4
  have cy5 := Y.cell 5
  have cy6 := Y.cell 6
  simp only [List.getElem?_toArray, List.getElem?_cons_zero, List.getElem?_cons_succ] at cx0 cx1 cx2 cx3 cx4 cx5 cx6 cy0 cy1 cy2 cy3 cy4 cy5 cy6
  have B0 := Lib.hid h0
  clear h0 X Y gr kr hl ER gi gj gp gq ki kj kp kq
  obtain ⟨r0, hr0⟩ : ∃ r, (x1 == y1 && x2 == y2) = r := ⟨_, rfl⟩
  have he0 := eqId x1 x2 y1 y2 r0 hr0
  obtain ⟨r1, hr1⟩ : ∃ r, (x3 == y3 && x4 == y4) = r := ⟨_, rfl⟩
  have he1 := eqId x3 x4 y3 y4 r1 hr1
  obtain ⟨r2, hr2⟩ : ∃ r, (x6 == y6) = r := ⟨_, rfl⟩
  obtain ⟨r3, hr3⟩ : ∃ r, (x7 == y7) = r := ⟨_, rfl⟩
  rw [hr0, hr1, hr2, hr3]
  clear hr0
  clear hr1
  obtain ⟨rs, hrs⟩ : ∃ r, sameC a.p b.p = r := ⟨_, rfl⟩
  rw [hrs] at C ⊢
  clear hrs
  go_enter Tryz.func50, Tryz.ntmps50
  cases r0
  · go_wp2_with fail
    go_ret
    exact ⟨rfl, B0.out⟩
  · cases r1
    · go_wp2_with fail
      go_ret
      exact ⟨rfl, B0.out⟩
    · cases r2
      · go_wp2_with fail
        go_ret
        exact ⟨rfl, B0.out⟩
      · cases r3
        · go_wp2_with fail
          go_ret
          exact ⟨rfl, B0.out⟩
        · go_wp2_with fail
          refine C.out.mono ?_
          rintro e w1 ⟨rfl, hb⟩
          have BB := Lib.hid (B0.out.trans (hb.mono B0.out.size))
          clear hb
          go_wp2
          go_ret
          exact ⟨rfl, BB.out⟩
set_option maxRecDepth 100000 in
set_option maxHeartbeats 8000000 in
theorem eqfN_any (v u : Sl) (l m : List XEn) (al bl : List En) (w : World) (ha : Row EN w (slv v) l) (hb : Row EN w (slv u) m) (hA : All2 (EnIn w) l al) (hB : All2 (EnIn w) m bl) (hs : ∀ a ∈ al, a.p.length ≤ 1000000) :
    Calls Tryz.prog 49 #[slv v, slv u, .func (.func 50) #[] #[]] w fun e w' => e = .returned (.bool (sameG eqE al bl)) ∧ Below w.heap.size w w' := by
  obtain ⟨so, sn, sc⟩ := v
  obtain ⟨uo, un, uc⟩ := u
  obtain ⟨ao, ac, hv⟩ := ha.len
  have hv : Value.slice so sn sc = .slice ao l.length ac := hv
  obtain ⟨rfl, rfl, rfl⟩ : so = ao ∧ sn = l.length ∧ sc = ac := by simpa using hv
  obtain ⟨ao, ac, hv2⟩ := hb.len
  have hv2 : Value.slice uo un uc = .slice ao m.length ac := hv2
  obtain ⟨rfl, rfl, rfl⟩ : uo = ao ∧ un = m.length ∧ uc = ac := by simpa using hv2
  have RA := Lib.hid ha
  have RB := Lib.hid hb
  have LA := Lib.hid hA
  have LB := Lib.hid hB
  have HS := Lib.hid hs
  have ma := ha.most
  unfold maxLen at ma
  clear ha hb hA hB hs hv hv2
  by_cases hlen : l.length = m.length
  · have HL := Lib.hid hlen
    rw [← hlen] at RB ⊢
    generalize hn : l.length = n at *
    have HN := Lib.hid hn
    clear hlen hn
    go_enter Tryz.func49, Tryz.ntmps49
    go_wp2
    go_loopw [17] (fun i wr => ∃ k : Nat, k ≤ n ∧ i = .int .i64 k ∧ Below w.heap.size w wr ∧ ∀ (j : Nat) (x y : En), j < k → al[j]? = some x → bl[j]? = some y → eqE x y = true) (fun i _ => n - (intOf i).toNat)
    case atStart => exact ⟨0, Nat.zero_le _, rfl, Below.refl _ _, fun j x y h => by omega⟩
    case round =>
      obtain ⟨k, hk, rfl, hbe, hall⟩ := hrel
      have BE := Lib.hid hbe
      have AL := Lib.hid hall
      clear hbe hall
      by_cases hlt : k < n
      · obtain ⟨a, hak⟩ : ∃ a, al[k]? = some a := ⟨_, List.getElem?_eq_getElem (by rw [← LA.out.len, HN.out]; exact hlt)⟩
        obtain ⟨b, hbk⟩ : ∃ b, bl[k]? = some b := ⟨_, List.getElem?_eq_getElem (by rw [← LB.out.len, ← HL.out]; exact hlt)⟩
        obtain ⟨x, hx, ix⟩ := LA.out.at k a hak
        obtain ⟨y, hy, iy⟩ := LB.out.at k b hbk
        obtain ⟨p, jx, px⟩ := elN RA.out rfl HN.out hx
        obtain ⟨q, jy, py⟩ := elN RB.out rfl HL.out.symm hy
        obtain ⟨p0, p1, p2, p3, p4, p5, p6⟩ := px wr BE.out
        have hs1 := HS.out a (List.mem_of_getElem? hak)
        have CC := fun W' (h : Below w.heap.size w W') => sameN_any x y a b W' (ix.on h) (iy.on h) hs1
        have HAK := Lib.hid hak
        have HBK := Lib.hid hbk
        clear hx hy hak hbk hs1 px ix iy
        obtain ⟨x1, x2, x3, x4, ⟨xo, xn, xc⟩, x6, x7⟩ := x
        obtain ⟨y1, y2, y3, y4, ⟨yo, yn, yc⟩, y6, y7⟩ := y
        simp only at p0 p1 p2 p3 p4 p5 p6
        have N1 := newB wr (.cells #[.int .i64 x1, .int .i64 x2, .int .i64 x3, .int .i64 x4, .slice xo xn xc, .int .i64 x6, .bool x7] 58)
        have N2 := newB (wr.alloc (.cells #[.int .i64 x1, .int .i64 x2, .int .i64 x3, .int .i64 x4, .slice xo xn xc, .int .i64 x6, .bool x7] 58)) (.cells #[.int .i64 y1, .int .i64 y2, .int .i64 y3, .int .i64 y4, .slice yo yn yc, .int .i64 y6, .bool y7] 58)
        have BN := Lib.hid (BE.out.trans ((N1.trans (N2.mono N1.size)).mono BE.out.size))
        obtain ⟨q0, q1, q2, q3, q4, q5, q6⟩ := py _ (BE.out.trans (N1.mono BE.out.size))
        have hX := (box_new wr #[.int .i64 x1, .int .i64 x2, .int .i64 x3, .int .i64 x4, .slice xo xn xc, .int .i64 x6, .bool x7] 58).on N2
        have hY := box_new (wr.alloc (.cells #[.int .i64 x1, .int .i64 x2, .int .i64 x3, .int .i64 x4, .slice xo xn xc, .int .i64 x6, .bool x7] 58)) #[.int .i64 y1, .int .i64 y2, .int .i64 y3, .int .i64 y4, .slice yo yn yc, .int .i64 y6, .bool y7] 58
        have hsz : (wr.alloc (.cells #[.int .i64 x1, .int .i64 x2, .int .i64 x3, .int .i64 x4, .slice xo xn xc, .int .i64 x6, .bool x7] 58)).heap.size = wr.heap.size + 1 := by simp
        rw [hsz] at hY
        have ex0 := hX.cell 0
        have ex1 := hX.cell 1
        have ex2 := hX.cell 2
        have ex3 := hX.cell 3
        have ex4 := hX.cell 4
        have ex5 := hX.cell 5
        have ex6 := hX.cell 6
        have ey0 := hY.cell 0
        have ey1 := hY.cell 1
        have ey2 := hY.cell 2
        have ey3 := hY.cell 3
        have ey4 := hY.cell 4
        have ey5 := hY.cell 5
        have ey6 := hY.cell 6
        simp only [List.getElem?_toArray, List.getElem?_cons_zero, List.getElem?_cons_succ] at ex0 ex1 ex2 ex3 ex4 ex5 ex6 ey0 ey1 ey2 ey3 ey4 ey5 ey6
        simp only at q0 q1 q2 q3 q4 q5 q6
        have hw3 : IntKind.i64.wrap ((k : Int) + 1) = (k : Int) + 1 := IntWalk.i64_in _ (by omega)
        have C := Lib.hid (CC _ BN.out)
        obtain ⟨r, hr⟩ : ∃ r, eqE a b = r := ⟨_, rfl⟩
        rw [hr] at C
        have HR := Lib.hid hr
        clear CC hr N1 N2 hX hY hsz py
        go_wp2_with fail
        refine C.out.mono ?_
        rintro e w1 ⟨rfl, hb⟩
        have BB := Lib.hid (BN.out.trans (hb.mono BN.out.size))
        clear hb C p0 p1 p2 p3 p4 p5 p6 q0 q1 q2 q3 q4 q5 q6 ex0 ex1 ex2 ex3 ex4 ex5 ex6 ey0 ey1 ey2 ey3 ey4 ey5 ey6 jx jy
        cases r
        · have R := Lib.hid (show sameG eqE al bl = false from sameG_not al bl k a b HAK.out HBK.out HR.out)
          go_wp2
          go_ret
          exact ⟨by rw [R.out]; rfl, BB.out⟩
        · go_wp2
          go_roundw
          case rel => exact ⟨k + 1, by omega, by go_num, BB.out, fun j x' y' hj h1 h2 => by
            rcases Nat.lt_or_ge j k with h3 | h3
            · exact AL.out j x' y' h3 h1 h2
            · obtain rfl : j = k := by omega
              have e1 := HAK.out
              have e2 := HBK.out
              rw [h1] at e1
              rw [h2] at e2
              rw [Option.some.inj e1, Option.some.inj e2]
              exact HR.out⟩
          case measure => simp [intOf]; omega
      · obtain rfl : k = n := by omega
        have R := Lib.hid (show sameG eqE al bl = true from sameG_all al bl (by rw [← LA.out.len, ← LB.out.len, HN.out]; exact HL.out) (fun j a b h1 h2 => AL.out j a b (by have := (List.getElem?_eq_some_iff.1 h1).1; have := HN.out; have := LA.out.len; omega) h1 h2))
        go_wp2
        go_ret
        exact ⟨by rw [R.out]; rfl, BE.out⟩
  · have R := Lib.hid (show sameG eqE al bl = false by
      cases h : sameG eqE al bl
      · rfl
      · exact absurd ((LA.out.len.trans (sameG_len _ _ h)).trans LB.out.len.symm) hlen)
    have hne : (((l.length : Nat) : Int) != ((m.length : Nat) : Int)) = true := by simp; omega
    have hne2 : (((l.length : Nat) : Int) == ((m.length : Nat) : Int)) = false := by simp; omega
    clear hlen
    go_enter Tryz.func49, Tryz.ntmps49
    go_wp2
    go_ret
    exact ⟨by rw [R.out]; rfl, Below.refl _ _⟩
end Go.Proofs.YtonoadjmglkhaaaGreat.Av
