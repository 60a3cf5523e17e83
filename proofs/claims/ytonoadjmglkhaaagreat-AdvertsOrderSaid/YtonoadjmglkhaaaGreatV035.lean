/-
  Lists that are the same; Same of IDs. Condition: at most a million elements.
  Entries of broadsidekeep: are two rows of entries the same? Condition: at most a million elements.
  Same of whole numbers. No condition.
-/
import Derived.Test.YtonoadjmglkhaaaGreatV012
import Derived.Test.YtonoadjmglkhaaaGreatV034
import Derived.Lib.QuietBelow
import Derived.BigQuiet
namespace Go.Proofs.YtonoadjmglkhaaaGreat.Bk
open Go.RowKit Go.Sort Go.Proofs.YtonoadjmglkhaaaGreat Go.Proofs.YtonoadjmglkhaaaGreat.Rw Go.Proofs.YtonoadjmglkhaaaGreat.Nm Go.Proofs.YtonoadjmglkhaaaGreat.Pr

/-- Are they the same, one by one? -/
def sameG {α : Type} (eq : α → α → Bool) : List α → List α → Bool
  | [], [] => true
  | x :: l, y :: m => eq x y && sameG eq l m
  | _, _ => false
theorem sameG_len {α : Type} {eq : α → α → Bool} : ∀ l m, sameG eq l m = true → l.length = m.length
  | [], [], _ => rfl
  | x :: l, y :: m, h => by
    simp only [sameG, Bool.and_eq_true] at h
    simp [sameG_len l m h.2]
  | [], y :: m, h => by simp [sameG] at h
  | x :: l, [], h => by simp [sameG] at h
theorem sameG_all {α : Type} {eq : α → α → Bool} : ∀ l m, l.length = m.length → (∀ (k : Nat) (x y : α), l[k]? = some x → m[k]? = some y → eq x y = true) → sameG eq l m = true
  | [], [], _, _ => rfl
  | x :: l, y :: m, hl, h => by
    simp only [sameG, Bool.and_eq_true]
    exact ⟨h 0 x y rfl rfl, sameG_all l m (by simpa using hl) (fun k a b ha hb => h (k + 1) a b (by simpa using ha) (by simpa using hb))⟩
  | [], y :: m, hl, _ => by simp at hl
  | x :: l, [], hl, _ => by simp at hl
theorem sameG_not {α : Type} {eq : α → α → Bool} : ∀ (l m : List α) (k : Nat) (x y : α), l[k]? = some x → m[k]? = some y → eq x y = false → sameG eq l m = false
  | [], _, k, x, y, h, _, _ => by simp at h
  | _ :: _, [], k, x, y, _, h, _ => by simp at h
  | a :: l, b :: m, 0, x, y, h1, h2, h3 => by
    simp at h1 h2
    subst h1 h2
    simp [sameG, h3]
  | a :: l, b :: m, k + 1, x, y, h1, h2, h3 => by
    simp only [sameG, sameG_not l m k x y (by simpa using h1) (by simpa using h2) h3, Bool.and_false]
theorem sameG_iff {α : Type} {eq : α → α → Bool} (he : ∀ x y, eq x y = true ↔ x = y) : ∀ l m : List α, sameG eq l m = true ↔ l = m
  | [], [] => by simp [sameG]
  | x :: l, y :: m => by
    simp only [sameG, Bool.and_eq_true, he, sameG_iff he l m, List.cons.injEq]
  | [], y :: m => by simp [sameG]
  | x :: l, [] => by simp [sameG]
def eqI (x y : Id) : Bool := x.1 == y.1 && x.2 == y.2
theorem eqI_iff (x y : Id) : eqI x y = true ↔ x = y := by
  obtain ⟨a, b⟩ := x
  obtain ⟨c, d⟩ := y
  simp [eqI]
def eqE (x y : En) : Bool := eqI x.tree y.tree && (eqI x.sub y.sub && (x.from_ == y.from_ && (x.up == y.up && sameC x.p y.p)))
theorem eqE_iff (x y : En) : eqE x y = true ↔ x = y := by
  obtain ⟨a, b, c, d, e⟩ := x
  obtain ⟨a', b', c', d', e'⟩ := y
  simp only [eqE, Bool.and_eq_true, eqI_iff, sameC_iff, beq_iff_eq, En.mk.injEq]
  constructor
  · rintro ⟨h1, h2, h3, h4, h5⟩
    exact ⟨h1, h2, h5, h3, h4⟩
  · rintro ⟨h1, h2, h3, h4, h5⟩
    exact ⟨h1, h2, h4, h5, h3⟩
theorem ret_b {a b : Bool} (h : a = b) : Ending.returned (.bool a) = Ending.returned (.bool b) := by rw [h]
set_option maxRecDepth 100000 in
set_option maxHeartbeats 8000000 in
theorem sameJ_any (av_ bv : Value) (l m : List Id) (w : World) (ha : RowJ w av_ l) (hb : RowJ w bv m) (hl : l.length ≤ 1000000) :
    Calls Tryz.prog 42 #[av_, bv] w fun e w' => e = .returned (.bool (sameG eqI l m)) ∧ Below w.heap.size w w' := by
  have HA := Lib.hid ha
  have HB := Lib.hid hb
  obtain ⟨ao, ac, rfl⟩ := ha.len
  obtain ⟨bo, bc, rfl⟩ := hb.len
  clear ha hb
  by_cases hlen : l.length = m.length
  · have HL := Lib.hid hlen
    rw [← hlen] at HB ⊢
    obtain ⟨n, hn⟩ : ∃ n, n = l.length := ⟨_, rfl⟩
    simp only [← hn] at HA HB ⊢
    have HN := Lib.hid hn.symm
    rw [← hn] at hl
    clear hlen hn
    go_enter Tryz.func42, Tryz.ntmps42
    go_wp2
    go_loopw [5] (fun i wr => ∃ k : Nat, k ≤ n ∧ i = .int .i64 k ∧ Below w.heap.size w wr ∧ ∀ (j : Nat) (x y : Id), j < k → l[j]? = some x → m[j]? = some y → eqI x y = true) (fun i _ => n - (intOf i).toNat)
    case atStart => exact ⟨0, Nat.zero_le _, rfl, Below.refl _ _, fun j x y h => by omega⟩
    case round =>
      obtain ⟨k, hk, rfl, hbe, hall⟩ := hrel
      have BE := Lib.hid hbe
      have AL := Lib.hid hall
      clear hbe hall
      by_cases hlt : k < n
      · obtain ⟨x, hx⟩ : ∃ x, l[k]? = some x := ⟨_, List.getElem?_eq_getElem (by rw [HN.out]; exact hlt)⟩
        obtain ⟨y, hy⟩ : ∃ y, m[k]? = some y := ⟨_, List.getElem?_eq_getElem (by rw [← HL.out, HN.out]; exact hlt)⟩
        obtain ⟨p, ix, px⟩ := elJ HA.out rfl HN.out hx
        obtain ⟨q, iy, py⟩ := elJ HB.out rfl (HL.out.symm.trans HN.out) hy
        obtain ⟨a, b⟩ := x
        obtain ⟨c, d⟩ := y
        have p0 := cell_regrown (px _ BE.out).1
        have p1 := cell_regrown (px _ BE.out).2
        have q0 := cell_regrown (py _ BE.out).1
        have q1 := cell_regrown (py _ BE.out).2
        obtain ⟨r, hr⟩ : ∃ r, eqI (a, b) (c, d) = r := ⟨_, rfl⟩
        have hne := neId a b c d (!r) (by rw [← hr]; rfl)
        have HX := Lib.hid hx
        have HY := Lib.hid hy
        have HR := Lib.hid hr
        clear px py hx hy hr
        cases r
        · have R := Lib.hid (show sameG eqI l m = false from sameG_not l m k _ _ HX.out HY.out HR.out)
          go_wp2
          refine wp_region_quiet_below (by kernel_rfl) (by kernel_rfl) ?_
          repeat (go_big_quiet_step (fail))
          refine wpQuiet_nil ?_
          intro _ hw'
          obtain ⟨⟨dq, osq⟩, hw''⟩ := hw'
          subst hw''
          go_wp2
          go_ret
          exact ⟨ret_b R.out.symm, BE.out.trans ((below_regrown wr dq osq).mono BE.out.size)⟩
        · go_wp2
          refine wp_region_quiet_below (by kernel_rfl) (by kernel_rfl) ?_
          repeat (go_big_quiet_step (fail))
          refine wpQuiet_nil ?_
          intro _ hw'
          obtain ⟨⟨dq, osq⟩, hw''⟩ := hw'
          subst hw''
          clear ix iy p0 p1 q0 q1 hne
          go_wp2
          go_roundw
          case rel => exact ⟨k + 1, by omega, by go_num, BE.out.trans ((below_regrown wr dq osq).mono BE.out.size), fun j x' y' hj h1 h2 => by
            rcases Nat.lt_or_ge j k with h3 | h3
            · exact AL.out j x' y' h3 h1 h2
            · obtain rfl : j = k := by omega
              have e1 := HX.out
              have e2 := HY.out
              rw [h1] at e1
              rw [h2] at e2
              rw [Option.some.inj e1, Option.some.inj e2]
              exact HR.out⟩
          case measure => simp [intOf]; omega
      · obtain rfl : k = n := by omega
        have R := Lib.hid (show sameG eqI l m = true from sameG_all l m (HL.out) (fun j a b h1 h2 => AL.out j a b (by have := (List.getElem?_eq_some_iff.1 h1).1; have := HN.out; omega) h1 h2))
        go_wp2
        go_ret
        exact ⟨ret_b R.out.symm, BE.out⟩
  · have R := Lib.hid (show sameG eqI l m = false by
      cases h : sameG eqI l m
      · rfl
      · have h2 := sameG_len _ _ h
        exact absurd (h2) hlen)
    have hne : (((l.length : Nat) : Int) != ((m.length : Nat) : Int)) = true := by simp; omega
    have hne2 : (((l.length : Nat) : Int) == ((m.length : Nat) : Int)) = false := by simp; omega
    clear hlen
    go_enter Tryz.func42, Tryz.ntmps42
    go_wp2
    go_ret
    exact ⟨ret_b R.out.symm, Below.refl _ _⟩
end Go.Proofs.YtonoadjmglkhaaaGreat.Bk

namespace Go.Proofs.YtonoadjmglkhaaaGreat.Bk
open Go.RowKit Go.Sort Go.Proofs.YtonoadjmglkhaaaGreat Go.Proofs.YtonoadjmglkhaaaGreat.Rw Go.Proofs.YtonoadjmglkhaaaGreat.Nm Go.Proofs.YtonoadjmglkhaaaGreat.Pr

theorem at_left {α β : Type} {R : α → β → Prop} : ∀ {l m} (_ : All2 R l m) (k : Nat) (a : α), l[k]? = some a → ∃ b, m[k]? = some b ∧ R a b
  | _, _, .nil, k, b, h => by simp at h
  | _, _, .cons x t, 0, b, h => by
    simp at h
    subst h
    exact ⟨_, rfl, x⟩
  | _, _, .cons x t, k + 1, b, h => by
    obtain ⟨a, h1, h2⟩ := at_left t k b (by simpa using h)
    exact ⟨a, by simpa using h1, h2⟩
set_option maxRecDepth 100000 in
set_option maxHeartbeats 8000000 in
theorem entries_any (av_ bv : Value) (l m : List XEn) (la lb : List En) (w : World) (ha : RowN w av_ l) (hb : RowN w bv m) (ua : All2 (EnIn w) l la) (ub : All2 (EnIn w) m lb) (sa : ∀ (k : Nat) (e : En), la[k]? = some e → e.p.length ≤ 1000000) (sb : ∀ (k : Nat) (e : En), lb[k]? = some e → e.p.length ≤ 1000000) (hl : l.length ≤ 1000000) :
    Calls Tryz.prog 43 #[av_, bv] w fun e w' => e = .returned (.bool (sameG eqE la lb)) ∧ Below w.heap.size w w' := by
  have UA := Lib.hid ua
  have UB := Lib.hid ub
  have SHA := Lib.hid sa
  have SHB := Lib.hid sb
  clear ua ub sa sb
  have HA := Lib.hid ha
  have HB := Lib.hid hb
  obtain ⟨ao, ac, rfl⟩ := ha.len
  obtain ⟨bo, bc, rfl⟩ := hb.len
  clear ha hb
  by_cases hlen : l.length = m.length
  · have HL := Lib.hid hlen
    rw [← hlen] at HB ⊢
    obtain ⟨n, hn⟩ : ∃ n, n = l.length := ⟨_, rfl⟩
    simp only [← hn] at HA HB ⊢
    have HN := Lib.hid hn.symm
    rw [← hn] at hl
    clear hlen hn
    go_enter Tryz.func43, Tryz.ntmps43
    go_wp2
    go_loopw [13] (fun i wr => ∃ k : Nat, k ≤ n ∧ i = .int .i64 k ∧ Below w.heap.size w wr ∧ ∀ (j : Nat) (x y : En), j < k → la[j]? = some x → lb[j]? = some y → eqE x y = true) (fun i _ => n - (intOf i).toNat)
    case atStart => exact ⟨0, Nat.zero_le _, rfl, Below.refl _ _, fun j x y h => by omega⟩
    case round =>
      obtain ⟨k, hk, rfl, hbe, hall⟩ := hrel
      have BE := Lib.hid hbe
      have AL := Lib.hid hall
      clear hbe hall
      by_cases hlt : k < n
      · obtain ⟨x, hx⟩ : ∃ x, l[k]? = some x := ⟨_, List.getElem?_eq_getElem (by rw [HN.out]; exact hlt)⟩
        obtain ⟨y, hy⟩ : ∃ y, m[k]? = some y := ⟨_, List.getElem?_eq_getElem (by rw [← HL.out, HN.out]; exact hlt)⟩
        obtain ⟨p, ix, px⟩ := elN HA.out rfl HN.out hx
        obtain ⟨q, iy, py⟩ := elN HB.out rfl (HL.out.symm.trans HN.out) hy
        obtain ⟨sx, hsx, ix_⟩ := at_left UA.out k x hx
        obtain ⟨sy, hsy, iy_⟩ := at_left UB.out k y hy
        obtain ⟨x1, x2, x3, x4, ⟨xo, xn, xc⟩, x6, x7⟩ := x
        obtain ⟨y1, y2, y3, y4, ⟨yo, yn, yc⟩, y6, y7⟩ := y
        obtain ⟨ta, tb, tp, tf, tu⟩ := sx
        obtain ⟨va, vb, vp, vf, vu⟩ := sy
        obtain ⟨rfl, rfl, rfl, rfl, rx⟩ := ix_
        obtain ⟨rfl, rfl, rfl, rfl, ry⟩ := iy_
        have p0 := cell_regrown (px _ BE.out).1
        have p1 := cell_regrown (px _ BE.out).2.1
        have p2 := cell_regrown (px _ BE.out).2.2.1
        have p3 := cell_regrown (px _ BE.out).2.2.2.1
        have p4 := cell_regrown (px _ BE.out).2.2.2.2.1
        have p5 := cell_regrown (px _ BE.out).2.2.2.2.2.1
        have p6 := cell_regrown (px _ BE.out).2.2.2.2.2.2
        have q0 := cell_regrown (py _ BE.out).1
        have q1 := cell_regrown (py _ BE.out).2.1
        have q2 := cell_regrown (py _ BE.out).2.2.1
        have q3 := cell_regrown (py _ BE.out).2.2.2.1
        have q4 := cell_regrown (py _ BE.out).2.2.2.2.1
        have q5 := cell_regrown (py _ BE.out).2.2.2.2.2.1
        have q6 := cell_regrown (py _ BE.out).2.2.2.2.2.2
        have CS := Lib.hid (fun d os => Calls.regrown_of (d := d) (os := os) (sameC_any (.slice xo xn xc) (.slice yo yn yc) tp vp _ ((rx.on BE.out).on (below_regrown wr d os)) ((ry.on BE.out).on (below_regrown wr d os)) (SHA.out _ _ hsx) (SHB.out _ _ hsy)))
        have R0 := show eqE ⟨(x1, x2), (x3, x4), tp, x6, x7⟩ ⟨(y1, y2), (y3, y4), vp, y6, y7⟩ = (eqI (x1, x2) (y1, y2) && (eqI (x3, x4) (y3, y4) && (x6 == y6 && (x7 == y7 && sameC tp vp)))) from rfl
        obtain ⟨r1, e1⟩ : ∃ r, eqI (x1, x2) (y1, y2) = r := ⟨_, rfl⟩
        obtain ⟨r2, e2⟩ : ∃ r, eqI (x3, x4) (y3, y4) = r := ⟨_, rfl⟩
        obtain ⟨r3, e3⟩ : ∃ r, (x6 == y6) = r := ⟨_, rfl⟩
        obtain ⟨r5, e5⟩ : ∃ r, sameC tp vp = r := ⟨_, rfl⟩
        have h1 := neId x1 x2 y1 y2 (!r1) (by rw [← e1]; rfl)
        have h2 := neId x3 x4 y3 y4 (!r2) (by rw [← e2]; rfl)
        have h3 : (x6 != y6) = !r3 := by rw [← e3]; rfl
        rw [e5] at CS
        rw [e1, e2, e3, e5] at R0
        have HX := Lib.hid hsx
        have HY := Lib.hid hsy
        have HR0 := Lib.hid R0
        clear px py hx hy hsx hsy rx ry R0 e1 e2 e3 e5
        cases r1
        · have HR := Lib.hid (HR0.out.trans (show _ = false by simp))
          have R := Lib.hid (show sameG eqE la lb = false from sameG_not la lb k _ _ HX.out HY.out HR.out)
          go_wp2
          refine wp_region_quiet_below (by kernel_rfl) (by kernel_rfl) ?_
          repeat (go_big_quiet_step (first | (with_reducible exact CS.out _ _)))
          refine wpQuiet_nil ?_
          intro _ hw'
          obtain ⟨⟨dq, osq⟩, hw''⟩ := hw'
          subst hw''
          go_wp2
          go_ret
          exact ⟨ret_b R.out.symm, BE.out.trans ((below_regrown wr dq osq).mono BE.out.size)⟩
        · cases r2
          · have HR := Lib.hid (HR0.out.trans (show _ = false by simp))
            have R := Lib.hid (show sameG eqE la lb = false from sameG_not la lb k _ _ HX.out HY.out HR.out)
            go_wp2
            refine wp_region_quiet_below (by kernel_rfl) (by kernel_rfl) ?_
            repeat (go_big_quiet_step (first | (with_reducible exact CS.out _ _)))
            refine wpQuiet_nil ?_
            intro _ hw'
            obtain ⟨⟨dq, osq⟩, hw''⟩ := hw'
            subst hw''
            go_wp2
            go_ret
            exact ⟨ret_b R.out.symm, BE.out.trans ((below_regrown wr dq osq).mono BE.out.size)⟩
          · cases r3
            · have HR := Lib.hid (HR0.out.trans (show _ = false by simp))
              have R := Lib.hid (show sameG eqE la lb = false from sameG_not la lb k _ _ HX.out HY.out HR.out)
              go_wp2
              refine wp_region_quiet_below (by kernel_rfl) (by kernel_rfl) ?_
              repeat (go_big_quiet_step (first | (with_reducible exact CS.out _ _)))
              refine wpQuiet_nil ?_
              intro _ hw'
              obtain ⟨⟨dq, osq⟩, hw''⟩ := hw'
              subst hw''
              go_wp2
              go_ret
              exact ⟨ret_b R.out.symm, BE.out.trans ((below_regrown wr dq osq).mono BE.out.size)⟩
            · cases x7 <;> cases y7
              · cases r5
                · have HR := Lib.hid (HR0.out.trans (show _ = false by simp))
                  have R := Lib.hid (show sameG eqE la lb = false from sameG_not la lb k _ _ HX.out HY.out HR.out)
                  go_wp2
                  refine wp_region_quiet_below (by kernel_rfl) (by kernel_rfl) ?_
                  repeat (go_big_quiet_step (first | (with_reducible exact CS.out _ _)))
                  refine wpQuiet_nil ?_
                  intro _ hw'
                  obtain ⟨⟨dq, osq⟩, hw''⟩ := hw'
                  subst hw''
                  go_wp2
                  go_ret
                  exact ⟨ret_b R.out.symm, BE.out.trans ((below_regrown wr dq osq).mono BE.out.size)⟩
                · have HR := Lib.hid (HR0.out.trans (show _ = true by simp))
                  go_wp2
                  refine wp_region_quiet_below (by kernel_rfl) (by kernel_rfl) ?_
                  repeat (go_big_quiet_step (first | (with_reducible exact CS.out _ _)))
                  refine wpQuiet_nil ?_
                  intro _ hw'
                  obtain ⟨⟨dq, osq⟩, hw''⟩ := hw'
                  subst hw''
                  clear ix iy p0 q0 p1 q1 p2 q2 p3 q3 p4 q4 p5 q5 p6 q6 h1 h2 h3
                  go_wp2
                  go_roundw
                  case rel => exact ⟨k + 1, by omega, by go_num, BE.out.trans ((below_regrown wr dq osq).mono BE.out.size), fun j x' y' hj h1 h2 => by
                    rcases Nat.lt_or_ge j k with h3 | h3
                    · exact AL.out j x' y' h3 h1 h2
                    · obtain rfl : j = k := by omega
                      have e1 := HX.out
                      have e2 := HY.out
                      rw [h1] at e1
                      rw [h2] at e2
                      rw [Option.some.inj e1, Option.some.inj e2]
                      exact HR.out⟩
                  case measure => simp [intOf]; omega
              · have HR := Lib.hid (HR0.out.trans (show _ = false by simp))
                have R := Lib.hid (show sameG eqE la lb = false from sameG_not la lb k _ _ HX.out HY.out HR.out)
                go_wp2
                refine wp_region_quiet_below (by kernel_rfl) (by kernel_rfl) ?_
                repeat (go_big_quiet_step (first | (with_reducible exact CS.out _ _)))
                refine wpQuiet_nil ?_
                intro _ hw'
                obtain ⟨⟨dq, osq⟩, hw''⟩ := hw'
                subst hw''
                go_wp2
                go_ret
                exact ⟨ret_b R.out.symm, BE.out.trans ((below_regrown wr dq osq).mono BE.out.size)⟩
              · have HR := Lib.hid (HR0.out.trans (show _ = false by simp))
                have R := Lib.hid (show sameG eqE la lb = false from sameG_not la lb k _ _ HX.out HY.out HR.out)
                go_wp2
                refine wp_region_quiet_below (by kernel_rfl) (by kernel_rfl) ?_
                repeat (go_big_quiet_step (first | (with_reducible exact CS.out _ _)))
                refine wpQuiet_nil ?_
                intro _ hw'
                obtain ⟨⟨dq, osq⟩, hw''⟩ := hw'
                subst hw''
                go_wp2
                go_ret
                exact ⟨ret_b R.out.symm, BE.out.trans ((below_regrown wr dq osq).mono BE.out.size)⟩
              · cases r5
                · have HR := Lib.hid (HR0.out.trans (show _ = false by simp))
                  have R := Lib.hid (show sameG eqE la lb = false from sameG_not la lb k _ _ HX.out HY.out HR.out)
                  go_wp2
                  refine wp_region_quiet_below (by kernel_rfl) (by kernel_rfl) ?_
                  repeat (go_big_quiet_step (first | (with_reducible exact CS.out _ _)))
                  refine wpQuiet_nil ?_
                  intro _ hw'
                  obtain ⟨⟨dq, osq⟩, hw''⟩ := hw'
                  subst hw''
                  go_wp2
                  go_ret
                  exact ⟨ret_b R.out.symm, BE.out.trans ((below_regrown wr dq osq).mono BE.out.size)⟩
                · have HR := Lib.hid (HR0.out.trans (show _ = true by simp))
                  go_wp2
                  refine wp_region_quiet_below (by kernel_rfl) (by kernel_rfl) ?_
                  repeat (go_big_quiet_step (first | (with_reducible exact CS.out _ _)))
                  refine wpQuiet_nil ?_
                  intro _ hw'
                  obtain ⟨⟨dq, osq⟩, hw''⟩ := hw'
                  subst hw''
                  clear ix iy p0 q0 p1 q1 p2 q2 p3 q3 p4 q4 p5 q5 p6 q6 h1 h2 h3
                  go_wp2
                  go_roundw
                  case rel => exact ⟨k + 1, by omega, by go_num, BE.out.trans ((below_regrown wr dq osq).mono BE.out.size), fun j x' y' hj h1 h2 => by
                    rcases Nat.lt_or_ge j k with h3 | h3
                    · exact AL.out j x' y' h3 h1 h2
                    · obtain rfl : j = k := by omega
                      have e1 := HX.out
                      have e2 := HY.out
                      rw [h1] at e1
                      rw [h2] at e2
                      rw [Option.some.inj e1, Option.some.inj e2]
                      exact HR.out⟩
                  case measure => simp [intOf]; omega
      · obtain rfl : k = n := by omega
        have R := Lib.hid (show sameG eqE la lb = true from sameG_all la lb (by rw [← UA.out.len, ← UB.out.len]; exact HL.out) (fun j a b h1 h2 => AL.out j a b (by have := (List.getElem?_eq_some_iff.1 h1).1; have := HN.out; have := UA.out.len; omega) h1 h2))
        go_wp2
        go_ret
        exact ⟨ret_b R.out.symm, BE.out⟩
  · have R := Lib.hid (show sameG eqE la lb = false by
      cases h : sameG eqE la lb
      · rfl
      · have h2 := sameG_len _ _ h
        exact absurd (by rw [UA.out.len, UB.out.len]; exact h2) hlen)
    have hne : (((l.length : Nat) : Int) != ((m.length : Nat) : Int)) = true := by simp; omega
    have hne2 : (((l.length : Nat) : Int) == ((m.length : Nat) : Int)) = false := by simp; omega
    clear hlen
    go_enter Tryz.func43, Tryz.ntmps43
    go_wp2
    go_ret
    exact ⟨ret_b R.out.symm, Below.refl _ _⟩
end Go.Proofs.YtonoadjmglkhaaaGreat.Bk

namespace Go.Proofs.YtonoadjmglkhaaaGreat.Bk
open Go.RowKit Go.Sort Go.Proofs.YtonoadjmglkhaaaGreat Go.Proofs.YtonoadjmglkhaaaGreat.Rw Go.Proofs.YtonoadjmglkhaaaGreat.Nm

theorem take_eq {α : Type} {a b : List α} {k : Nat} {x y : α} (h : a.take k = b.take k) (hx : a[k]? = some x) (hy : b[k]? = some y) (e : x = y) : a.take (k + 1) = b.take (k + 1) := by
  rw [List.take_add_one, List.take_add_one, hx, hy, h, e]
set_option maxRecDepth 100000 in
set_option maxHeartbeats 8000000 in
theorem sameI (av bv : Value) (a b : List Int) (w : World) (ha : RowI w av a) (hb : RowI w bv b) :
    Calls Tryz.prog 41 #[av, bv] w fun e w' => e = .returned (.bool (decide (a = b))) ∧ Below w.heap.size w w' := by
  have HA := Lib.hid ha
  have HB := Lib.hid hb
  have ma := ha.most
  have mb := hb.most
  unfold maxLen at ma mb
  obtain ⟨ao, ac, rfl⟩ := ha.len
  obtain ⟨bo, bc, rfl⟩ := hb.len
  clear ha hb
  by_cases hl : a.length = b.length
  · obtain ⟨n, hn⟩ : ∃ n, n = a.length := ⟨_, rfl⟩
    have NA := Lib.hid hn.symm
    have NB := Lib.hid (hl.symm.trans hn.symm)
    rw [← hl, ← hn] at HB
    rw [← hn] at HA ma
    rw [← hl, ← hn]
    clear hl hn mb
    go_enter Tryz.func41, Tryz.ntmps41
    go_wp2
    go_loopw [5] (fun i wr => ∃ k : Nat, k ≤ n ∧ i = .int .i64 k ∧ a.take k = b.take k ∧ Below w.heap.size w wr) (fun i _ => n - (intOf i).toNat)
    case atStart => exact ⟨0, Nat.zero_le _, rfl, rfl, Below.refl _ _⟩
    case round =>
      obtain ⟨k, hk, rfl, htk, hbe⟩ := hrel
      have TK := Lib.hid htk
      have BE := Lib.hid hbe
      clear hbe htk
      by_cases hlt : k < n
      · obtain ⟨x, hx⟩ : ∃ x, a[k]? = some x := ⟨_, List.getElem?_eq_getElem (by rw [NA.out]; exact hlt)⟩
        obtain ⟨y, hy⟩ : ∃ y, b[k]? = some y := ⟨_, List.getElem?_eq_getElem (by rw [NB.out]; exact hlt)⟩
        obtain ⟨p, ix, _, px⟩ := elI HA.out rfl NA.out hx
        obtain ⟨q, iy, _, py⟩ := elI HB.out rfl NB.out hy
        have p0 := cell_regrown (px _ BE.out)
        have q0 := cell_regrown (py _ BE.out)
        obtain ⟨r, hr⟩ : ∃ r, ((x : Int) == (y : Int)) = r := ⟨_, rfl⟩
        have HX := Lib.hid hx
        have HY := Lib.hid hy
        have HR := Lib.hid hr
        clear px py hx hy
        go_wp2
        have hr2 : ((x : Int) != (y : Int)) = !r := by unfold bne; rw [hr]
        cases r
        all_goals
          simp only [Bool.not_true, Bool.not_false] at hr2
          refine wp_region_quiet_below (by kernel_rfl) (by kernel_rfl) ?_
          repeat (go_big_quiet_step (fail))
          refine wpQuiet_nil ?_
          intro _ hw'
          obtain ⟨⟨dq, osq⟩, hw''⟩ := hw'
          subst hw''
          have BN := Lib.hid (BE.out.trans ((below_regrown wr dq osq).mono BE.out.size))
          clear p0 q0 ix iy hr
        · go_wp2
          go_ret
          refine ⟨?_, BN.out⟩
          have hne : a ≠ b := fun e => by
            have h1 := HX.out
            rw [e, HY.out] at h1
            cases h1
            have h2 := HR.out
            simp at h2
          rw [decide_eq_false hne]
          rfl
        · have TN := Lib.hid (take_eq TK.out HX.out HY.out (by have h := HR.out; rw [beq_iff_eq] at h; exact h))
          go_wp2
          go_roundw
          case rel => exact ⟨k + 1, by omega, by go_num, TN.out, BN.out⟩
          case measure => simp [intOf]; omega
      · obtain rfl : k = n := by omega
        have EQ := Lib.hid (show a = b by have h := TK.out; rwa [List.take_of_length_le (by rw [NA.out]; exact Nat.le_refl _), List.take_of_length_le (by rw [NB.out]; exact Nat.le_refl _)] at h)
        go_wp2
        go_ret
        exact ⟨by rw [decide_eq_true EQ.out]; rfl, BE.out⟩
  · have hd : ((a.length : Int) == (b.length : Int)) = false := by simp; omega
    have hd2 : (a.length == b.length) = false := by simp; exact hl
    have E := Lib.hid (decide_eq_false (show ¬ a = b from fun e => hl (by rw [e])))
    have HD := Lib.hid hl
    clear hl
    go_enter Tryz.func41, Tryz.ntmps41
    go_wp2
    go_ret
    exact ⟨by rw [E.out]; rfl, Below.refl _ _⟩
end Go.Proofs.YtonoadjmglkhaaaGreat.Bk
