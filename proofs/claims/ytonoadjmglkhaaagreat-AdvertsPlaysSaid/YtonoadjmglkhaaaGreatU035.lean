/-
  Same of two lists of constraints, of the statements' own package. Condition: lists far below a machine's length.
  Lists that are the same; Same of IDs. Condition: at most a million elements.
-/
import Derived.Test.YtonoadjmglkhaaaGreatU002
import Derived.Test.YtonoadjmglkhaaaGreatU010
import Derived.Lib.Hide
import Derived.Lib.QuietBelow
import Derived.BigQuiet
import Derived.Test.YtonoadjmglkhaaaGreatU018
namespace Go.Proofs.YtonoadjmglkhaaaGreat.Pr
open Go.RowKit Go.Sort Go.Proofs.YtonoadjmglkhaaaGreat Go.Proofs.YtonoadjmglkhaaaGreat.Pu Go.Proofs.YtonoadjmglkhaaaGreat.Rw Go.Proofs.YtonoadjmglkhaaaGreat.Va

/-- Are the lists the same? -/
def sameC : List C5 → List C5 → Bool
  | [], [] => true
  | x :: l, y :: m => eqlC x y && sameC l m
  | _, _ => false
theorem sameC_len : ∀ l m, sameC l m = true → l.length = m.length
  | [], [], _ => rfl
  | x :: l, y :: m, h => by
    simp only [sameC, Bool.and_eq_true] at h
    simp [sameC_len l m h.2]
  | [], y :: m, h => by simp [sameC] at h
  | x :: l, [], h => by simp [sameC] at h
theorem sameC_all : ∀ l m, l.length = m.length → (∀ (k : Nat) (x y : C5), l[k]? = some x → m[k]? = some y → eqlC x y = true) → sameC l m = true
  | [], [], _, _ => rfl
  | x :: l, y :: m, hl, h => by
    simp only [sameC, Bool.and_eq_true]
    exact ⟨h 0 x y rfl rfl, sameC_all l m (by simpa using hl) (fun k a b ha hb => h (k + 1) a b (by simpa using ha) (by simpa using hb))⟩
  | [], y :: m, hl, _ => by simp at hl
  | x :: l, [], hl, _ => by simp at hl
theorem sameC_not : ∀ (l m : List C5) (k : Nat) (x y : C5), l[k]? = some x → m[k]? = some y → eqlC x y = false → sameC l m = false
  | [], _, k, x, y, h, _, _ => by simp at h
  | _ :: _, [], k, x, y, _, h, _ => by simp at h
  | a :: l, b :: m, 0, x, y, h1, h2, h3 => by
    simp at h1 h2
    subst h1 h2
    simp [sameC, h3]
  | a :: l, b :: m, k + 1, x, y, h1, h2, h3 => by
    simp only [sameC, sameC_not l m k x y (by simpa using h1) (by simpa using h2) h3, Bool.and_false]
theorem sameC_iff : ∀ l m : List C5, sameC l m = true ↔ l = m
  | [], [] => by simp [sameC]
  | x :: l, y :: m => by
    simp only [sameC, Bool.and_eq_true, eqlC_iff, sameC_iff l m, List.cons.injEq]
  | [], y :: m => by simp [sameC]
  | x :: l, [] => by simp [sameC]
theorem sameC_refl (l : List C5) : sameC l l = true := (sameC_iff l l).2 rfl

set_option maxRecDepth 100000 in
set_option maxHeartbeats 4000000 in
theorem sameC_any (av_ bv : Value) (l m : List C5) (w : World) (ha : RowC w av_ l) (hb : RowC w bv m) (hl : l.length ≤ 1000000) (_hm : m.length ≤ 1000000) :
    Calls Tryz.prog 44 #[av_, bv] w fun e w' => e = .returned (.bool (sameC l m)) ∧ Below w.heap.size w w' := by
  have HA := Lib.hid ha
  have HB := Lib.hid hb
  obtain ⟨ao, ac, rfl⟩ := ha.len
  obtain ⟨bo, bc, rfl⟩ := hb.len
  clear ha hb
  by_cases hlen : l.length = m.length
  · have HL := Lib.hid hlen
    rw [← hlen] at HB ⊢
    generalize hn : l.length = n at *
    have HN := Lib.hid hn
    clear hlen hn
    go_enter Tryz.func44, Tryz.ntmps44
    go_wp2
    go_loopw [5] (fun i wr => ∃ k : Nat, k ≤ n ∧ i = .int .i64 k ∧ Below w.heap.size w wr ∧ ∀ (j : Nat) (x y : C5), j < k → l[j]? = some x → m[j]? = some y → eqlC x y = true) (fun i _ => n - (intOf i).toNat)
    case atStart => exact ⟨0, Nat.zero_le _, rfl, Below.refl _ _, fun j x y h => by omega⟩
    case round =>
      obtain ⟨k, hk, rfl, hbe, hall⟩ := hrel
      have BE := Lib.hid hbe
      have AL := Lib.hid hall
      clear hbe hall
      by_cases hlt : k < n
      · obtain ⟨x, hx⟩ : ∃ x, l[k]? = some x := ⟨_, List.getElem?_eq_getElem (by rw [HN.out]; exact hlt)⟩
        obtain ⟨y, hy⟩ : ∃ y, m[k]? = some y := ⟨_, List.getElem?_eq_getElem (by rw [← HL.out]; exact hlt)⟩
        obtain ⟨p, ix, px⟩ := elC HA.out rfl HN.out hx
        obtain ⟨q, iy, py⟩ := elC HB.out rfl HL.out.symm hy
        have p0 := cell_regrown (px _ BE.out).1
        have p1 := cell_regrown (px _ BE.out).2.1
        have p2 := cell_regrown (px _ BE.out).2.2.1
        have p3 := cell_regrown (px _ BE.out).2.2.2.1
        have p4 := cell_regrown (px _ BE.out).2.2.2.2
        have q0 := cell_regrown (py _ BE.out).1
        have q1 := cell_regrown (py _ BE.out).2.1
        have q2 := cell_regrown (py _ BE.out).2.2.1
        have q3 := cell_regrown (py _ BE.out).2.2.2.1
        have q4 := cell_regrown (py _ BE.out).2.2.2.2
        clear px py
        obtain ⟨r, hr⟩ : ∃ r, eqlC x y = r := ⟨_, rfl⟩
        have hne := neqC x y r hr
        have HX := Lib.hid hx
        have HY := Lib.hid hy
        have HR := Lib.hid hr
        clear hx hy hr
        cases r
        · have R := Lib.hid (show sameC l m = false from sameC_not l m k x y HX.out HY.out HR.out)
          go_wp2
          refine wp_region_quiet_below (by kernel_rfl) (by kernel_rfl) ?_
          repeat (go_big_quiet_step (fail))
          refine wpQuiet_nil ?_
          intro _ hw'
          obtain ⟨⟨dq, osq⟩, hw''⟩ := hw'
          subst hw''
          go_wp2
          go_ret
          exact ⟨ret_bool R.out.symm, BE.out.trans ((below_regrown wr dq osq).mono BE.out.size)⟩
        · go_wp2
          refine wp_region_quiet_below (by kernel_rfl) (by kernel_rfl) ?_
          repeat (go_big_quiet_step (fail))
          refine wpQuiet_nil ?_
          intro _ hw'
          obtain ⟨⟨dq, osq⟩, hw''⟩ := hw'
          subst hw''
          clear ix iy p0 p1 p2 p3 p4 q0 q1 q2 q3 q4 hne
          go_wp2
          go_roundw
          case rel => exact ⟨k + 1, by omega, by go_num, BE.out.trans ((below_regrown wr dq osq).mono BE.out.size), fun j x' y' hj h1 h2 => by
            rcases Nat.lt_or_ge j k with h3 | h3
            · exact AL.out j x' y' h3 h1 h2
            · obtain rfl : j = k := by omega
              have e1 := HX.out
              have e2 := HY.out
              rw [h1] at e1
              rw [h2] at e2
              rw [Option.some.inj e1, Option.some.inj e2]
              exact HR.out⟩
          case measure => simp [intOf]; omega
      · obtain rfl : k = n := by omega
        have R := Lib.hid (show sameC l m = true from sameC_all l m (by rw [HN.out]; exact HL.out) (fun j a b h1 h2 => AL.out j a b (by have := (List.getElem?_eq_some_iff.1 h1).1; have := HN.out; omega) h1 h2))
        go_wp2
        go_ret
        exact ⟨ret_bool R.out.symm, BE.out⟩
  · have R := Lib.hid (show sameC l m = false by
      cases h : sameC l m
      · rfl
      · exact absurd (sameC_len _ _ h) hlen)
    have hne : (((l.length : Nat) : Int) != ((m.length : Nat) : Int)) = true := by simp; omega
    have hne2 : (((l.length : Nat) : Int) == ((m.length : Nat) : Int)) = false := by simp; omega
    clear hlen
    go_enter Tryz.func44, Tryz.ntmps44
    go_wp2
    go_ret
    exact ⟨ret_bool R.out.symm, Below.refl _ _⟩

end Go.Proofs.YtonoadjmglkhaaaGreat.Pr

namespace Go.Proofs.YtonoadjmglkhaaaGreat.Bk
open Go.RowKit Go.Sort Go.Proofs.YtonoadjmglkhaaaGreat Go.Proofs.YtonoadjmglkhaaaGreat.Rw Go.Proofs.YtonoadjmglkhaaaGreat.Nm Go.Proofs.YtonoadjmglkhaaaGreat.Pr

/-- Are they the same, one by one? -/
def sameG {α : Type} (eq : α → α → Bool) : List α → List α → Bool
  | [], [] => true
  | x :: l, y :: m => eq x y && sameG eq l m
  | _, _ => false
theorem sameG_len {α : Type} {eq : α → α → Bool} : ∀ l m, sameG eq l m = true → l.length = m.length
  | [], [], _ => rfl
  | x :: l, y :: m, h => by
    simp only [sameG, Bool.and_eq_true] at h
    simp [sameG_len l m h.2]
  | [], y :: m, h => by simp [sameG] at h
  | x :: l, [], h => by simp [sameG] at h
theorem sameG_all {α : Type} {eq : α → α → Bool} : ∀ l m, l.length = m.length → (∀ (k : Nat) (x y : α), l[k]? = some x → m[k]? = some y → eq x y = true) → sameG eq l m = true
  | [], [], _, _ => rfl
  | x :: l, y :: m, hl, h => by
    simp only [sameG, Bool.and_eq_true]
    exact ⟨h 0 x y rfl rfl, sameG_all l m (by simpa using hl) (fun k a b ha hb => h (k + 1) a b (by simpa using ha) (by simpa using hb))⟩
  | [], y :: m, hl, _ => by simp at hl
  | x :: l, [], hl, _ => by simp at hl
theorem sameG_not {α : Type} {eq : α → α → Bool} : ∀ (l m : List α) (k : Nat) (x y : α), l[k]? = some x → m[k]? = some y → eq x y = false → sameG eq l m = false
  | [], _, k, x, y, h, _, _ => by simp at h
  | _ :: _, [], k, x, y, _, h, _ => by simp at h
  | a :: l, b :: m, 0, x, y, h1, h2, h3 => by
    simp at h1 h2
    subst h1 h2
    simp [sameG, h3]
  | a :: l, b :: m, k + 1, x, y, h1, h2, h3 => by
    simp only [sameG, sameG_not l m k x y (by simpa using h1) (by simpa using h2) h3, Bool.and_false]
theorem sameG_iff {α : Type} {eq : α → α → Bool} (he : ∀ x y, eq x y = true ↔ x = y) : ∀ l m : List α, sameG eq l m = true ↔ l = m
  | [], [] => by simp [sameG]
  | x :: l, y :: m => by
    simp only [sameG, Bool.and_eq_true, he, sameG_iff he l m, List.cons.injEq]
  | [], y :: m => by simp [sameG]
  | x :: l, [] => by simp [sameG]
def eqI (x y : Id) : Bool := x.1 == y.1 && x.2 == y.2
theorem eqI_iff (x y : Id) : eqI x y = true ↔ x = y := by
  obtain ⟨a, b⟩ := x
  obtain ⟨c, d⟩ := y
  simp [eqI]
def eqE (x y : En) : Bool := eqI x.tree y.tree && (eqI x.sub y.sub && (x.from_ == y.from_ && (x.up == y.up && sameC x.p y.p)))
theorem eqE_iff (x y : En) : eqE x y = true ↔ x = y := by
  obtain ⟨a, b, c, d, e⟩ := x
  obtain ⟨a', b', c', d', e'⟩ := y
  simp only [eqE, Bool.and_eq_true, eqI_iff, sameC_iff, beq_iff_eq, En.mk.injEq]
  constructor
  · rintro ⟨h1, h2, h3, h4, h5⟩
    exact ⟨h1, h2, h5, h3, h4⟩
  · rintro ⟨h1, h2, h3, h4, h5⟩
    exact ⟨h1, h2, h4, h5, h3⟩
theorem ret_b {a b : Bool} (h : a = b) : Ending.returned (.bool a) = Ending.returned (.bool b) := by rw [h]
set_option maxRecDepth 100000 in
set_option maxHeartbeats 8000000 in
theorem sameJ_any (av_ bv : Value) (l m : List Id) (w : World) (ha : RowJ w av_ l) (hb : RowJ w bv m) (hl : l.length ≤ 1000000) :
    Calls Tryz.prog 42 #[av_, bv] w fun e w' => e = .returned (.bool (sameG eqI l m)) ∧ Below w.heap.size w w' := by
  have HA := Lib.hid ha
  have HB := Lib.hid hb
  obtain ⟨ao, ac, rfl⟩ := ha.len
  obtain ⟨bo, bc, rfl⟩ := hb.len
  clear ha hb
  by_cases hlen : l.length = m.length
  · have HL := Lib.hid hlen
    rw [← hlen] at HB ⊢
    obtain ⟨n, hn⟩ : ∃ n, n = l.length := ⟨_, rfl⟩
    simp only [← hn] at HA HB ⊢
    have HN := Lib.hid hn.symm
    rw [← hn] at hl
    clear hlen hn
    go_enter Tryz.func42, Tryz.ntmps42
    go_wp2
    go_loopw [5] (fun i wr => ∃ k : Nat, k ≤ n ∧ i = .int .i64 k ∧ Below w.heap.size w wr ∧ ∀ (j : Nat) (x y : Id), j < k → l[j]? = some x → m[j]? = some y → eqI x y = true) (fun i _ => n - (intOf i).toNat)
    case atStart => exact ⟨0, Nat.zero_le _, rfl, Below.refl _ _, fun j x y h => by omega⟩
    case round =>
      obtain ⟨k, hk, rfl, hbe, hall⟩ := hrel
      have BE := Lib.hid hbe
      have AL := Lib.hid hall
      clear hbe hall
      by_cases hlt : k < n
      · obtain ⟨x, hx⟩ : ∃ x, l[k]? = some x := ⟨_, List.getElem?_eq_getElem (by rw [HN.out]; exact hlt)⟩
        obtain ⟨y, hy⟩ : ∃ y, m[k]? = some y := ⟨_, List.getElem?_eq_getElem (by rw [← HL.out, HN.out]; exact hlt)⟩
        obtain ⟨p, ix, px⟩ := elJ HA.out rfl HN.out hx
        obtain ⟨q, iy, py⟩ := elJ HB.out rfl (HL.out.symm.trans HN.out) hy
        obtain ⟨a, b⟩ := x
        obtain ⟨c, d⟩ := y
        have p0 := cell_regrown (px _ BE.out).1
        have p1 := cell_regrown (px _ BE.out).2
        have q0 := cell_regrown (py _ BE.out).1
        have q1 := cell_regrown (py _ BE.out).2
        obtain ⟨r, hr⟩ : ∃ r, eqI (a, b) (c, d) = r := ⟨_, rfl⟩
        have hne := neId a b c d (!r) (by rw [← hr]; rfl)
        have HX := Lib.hid hx
        have HY := Lib.hid hy
        have HR := Lib.hid hr
        clear px py hx hy hr
        cases r
        · have R := Lib.hid (show sameG eqI l m = false from sameG_not l m k _ _ HX.out HY.out HR.out)
          go_wp2
          refine wp_region_quiet_below (by kernel_rfl) (by kernel_rfl) ?_
          repeat (go_big_quiet_step (fail))
          refine wpQuiet_nil ?_
          intro _ hw'
          obtain ⟨⟨dq, osq⟩, hw''⟩ := hw'
          subst hw''
          go_wp2
          go_ret
          exact ⟨ret_b R.out.symm, BE.out.trans ((below_regrown wr dq osq).mono BE.out.size)⟩
        · go_wp2
          refine wp_region_quiet_below (by kernel_rfl) (by kernel_rfl) ?_
          repeat (go_big_quiet_step (fail))
          refine wpQuiet_nil ?_
          intro _ hw'
          obtain ⟨⟨dq, osq⟩, hw''⟩ := hw'
          subst hw''
          clear ix iy p0 p1 q0 q1 hne
          go_wp2
          go_roundw
          case rel => exact ⟨k + 1, by omega, by go_num, BE.out.trans ((below_regrown wr dq osq).mono BE.out.size), fun j x' y' hj h1 h2 => by
            rcases Nat.lt_or_ge j k with h3 | h3
            · exact AL.out j x' y' h3 h1 h2
            · obtain rfl : j = k := by omega
              have e1 := HX.out
              have e2 := HY.out
              rw [h1] at e1
              rw [h2] at e2
              rw [Option.some.inj e1, Option.some.inj e2]
              exact HR.out⟩
          case measure => simp [intOf]; omega
      · obtain rfl : k = n := by omega
        have R := Lib.hid (show sameG eqI l m = true from sameG_all l m (HL.out) (fun j a b h1 h2 => AL.out j a b (by have := (List.getElem?_eq_some_iff.1 h1).1; have := HN.out; omega) h1 h2))
        go_wp2
        go_ret
        exact ⟨ret_b R.out.symm, BE.out⟩
  · have R := Lib.hid (show sameG eqI l m = false by
      cases h : sameG eqI l m
      · rfl
      · have h2 := sameG_len _ _ h
        exact absurd (h2) hlen)
    have hne : (((l.length : Nat) : Int) != ((m.length : Nat) : Int)) = true := by simp; omega
    have hne2 : (((l.length : Nat) : Int) == ((m.length : Nat) : Int)) = false := by simp; omega
    clear hlen
    go_enter Tryz.func42, Tryz.ntmps42
    go_wp2
    go_ret
    exact ⟨ret_b R.out.symm, Below.refl _ _⟩
end Go.Proofs.YtonoadjmglkhaaaGreat.Bk
