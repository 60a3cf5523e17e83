/-
  slices.BinarySearch of numbers; comes of package adverts. Conditions: they don't fall; at most 900 of them.
  Within of the statements' own package: a number brought into bounds. Condition: bounds up to a million; numbers of 64 bits.
-/
import Derived.Test.YtonoadjmglkhaaaGreatU004
import Derived.Test.YtonoadjmglkhaaaGreatU008
import Derived.Deep.LoopGhost
import Derived.Test.YtonoadjmglkhaaaGreatProg
import Derived.WalkKit
import Derived.Lib.Hide
namespace Go.Proofs.YtonoadjmglkhaaaGreat.Av
open Go.RowKit Go.Sort Go.Proofs.YtonoadjmglkhaaaGreat Go.Proofs.YtonoadjmglkhaaaGreat.Rw Go.Proofs.YtonoadjmglkhaaaGreat.Nm Go.Proofs.YtonoadjmglkhaaaGreat.Pr Go.Proofs.YtonoadjmglkhaaaGreat.Bk

set_option maxRecDepth 100000 in
theorem isNaN2_any (a : Int) (w : World) : Calls Tryz.prog 135 #[.int .i64 a] w fun e w' => e = .returned (.bool false) ∧ w' = w := by
  go_enter Tryz.func135, Tryz.ntmps135
  go_wp2
  go_ret
  exact ⟨by simp, rfl⟩
set_option maxRecDepth 100000 in
theorem less2_any (a b : Int) (r : Bool) (hr : decide (a < b) = r) (w : World) : Calls Tryz.prog 110 #[.int .i64 a, .int .i64 b] w fun e w' => e = .returned (.bool r) ∧ w' = w := by
  go_enter Tryz.func110, Tryz.ntmps110
  go_wp2_with (go_at_call 92; refine (isNaN_any _ _).mono ?_; rintro e w' ⟨rfl, rfl⟩)
  go_ret
  exact ⟨by first | rfl | (subst hr; rfl), rfl⟩
set_option maxRecDepth 100000 in
set_option maxHeartbeats 8000000 in
theorem bsI_any (v : Value) (l : List Int) (t : Int) (w : World) (hv : RowI w v l) (hs : l.Pairwise (· ≤ ·)) (hl : l.length ≤ 900) :
    Calls Tryz.prog 121 #[v, .int .i64 t] w fun e w' => (∃ k : Nat, e = .returned (.tuple #[.int .i64 k, .bool (decide (t ∈ l))])) ∧ w' = w := by
  have HL := Lib.hid hv
  have HS := Lib.hid (List.pairwise_iff_getElem.1 hs)
  obtain ⟨ao, ac, rfl⟩ := hv.len
  obtain ⟨n, hn⟩ : ∃ n, n = l.length := ⟨_, rfl⟩
  rw [← hn] at HL hl ⊢
  have HN := Lib.hid hn
  obtain ⟨th, ht⟩ : ∃ k, k = decide (t ∈ l) := ⟨_, rfl⟩
  rw [← ht]
  have HT := Lib.hid ht
  clear hv hs hn ht
  go_enter Tryz.func121, Tryz.ntmps121
  go_wp2
  go_loopg [7, 8] n (fun kx s7 s8 wr => ∃ lo hi : Nat, s7 = .int .i64 lo ∧ s8 = .int .i64 hi ∧ lo ≤ hi ∧ hi ≤ n ∧ hi - lo ≤ kx ∧ RowKit.Hid (wr = w) ∧
    (∀ (j : Nat) (y : Int), j < lo → l[j]? = some y → y < t) ∧ (∀ (j : Nat) (y : Int), hi ≤ j → l[j]? = some y → t ≤ y))
  case atStart => exact ⟨0, n, rfl, rfl, Nat.zero_le _, Nat.le_refl _, by omega, by first | exact Lib.hid rfl | exact Lib.hid trivial, fun j y h => by omega, fun j y h1 h2 => by have := (List.getElem?_eq_some_iff.1 h2).1; have := HN.out; omega⟩
  case round =>
    obtain ⟨lo, hi, rfl, rfl, hlh, hin, hg, hw, ha, hz⟩ := hrel
    obtain rfl := hw.out
    clear hw
    have AL := Lib.hid ha
    have ZL := Lib.hid hz
    clear ha hz
    by_cases hlt : lo < hi
    · obtain ⟨y, hy⟩ : ∃ y, l[(lo + hi) / 2]? = some y := ⟨_, List.getElem?_eq_getElem (by have := HN.out; omega)⟩
      obtain ⟨p, ix, _, px⟩ := elI HL.out rfl HN.out.symm hy
      have p0 := px wr (Below.refl _ _)
      have Y := Lib.hid hy
      have e23 : ((lo : Int) + (hi : Int)) / 2 = (((lo + hi) / 2 : Nat) : Int) := by omega
      generalize hm : (lo + hi) / 2 = m at *
      have hcmp : ∀ (i j : Nat) (a b : Int), i ≤ j → l[i]? = some a → l[j]? = some b → a ≤ b := by
        intro i j a b hij h1 h2
        obtain ⟨q1, rfl⟩ := List.getElem?_eq_some_iff.1 h1
        obtain ⟨q2, rfl⟩ := List.getElem?_eq_some_iff.1 h2
        rcases Nat.lt_or_ge i j with h | h
        · exact HS.out i j q1 q2 h
        · obtain rfl : i = j := by omega
          exact Int.le_refl _
      have CM := Lib.hid hcmp
      clear px hy hcmp
      by_cases hneg : y < t
      · have C := less2_any y t true (by simpa using hneg)
        go_wp2_with fail
        refine (C _).mono ?_
        rintro e w' ⟨rfl, rfl⟩
        clear C ix p0
        go_wp2
        go_roundg (hi - (m + 1))
        case measure => omega
        case rel => exact ⟨m + 1, hi, by go_num, rfl, by omega, hin, Nat.le_refl _, by first | exact Lib.hid rfl | exact Lib.hid trivial, fun j z h1 h2 => by
          have := CM.out j m z y (by omega) h2 Y.out
          omega, ZL.out⟩
      · have C := less2_any y t false (by simp; omega)
        go_wp2_with fail
        refine (C _).mono ?_
        rintro e w' ⟨rfl, rfl⟩
        clear C ix p0
        go_wp2
        go_roundg (m - lo)
        case measure => omega
        case rel => exact ⟨lo, m, rfl, rfl, by omega, by omega, Nat.le_refl _, by first | exact Lib.hid rfl | exact Lib.hid trivial, AL.out, fun j z h1 h2 => by
          have := CM.out m j y z h1 Y.out h2
          omega⟩
    · obtain rfl : hi = lo := by omega
      have memk : ∀ x, l[hi]? = some x → (t ∈ l ↔ x = t) := by
        intro x hx
        constructor
        · intro hm
          obtain ⟨j, hj, rfl⟩ := List.mem_iff_getElem.1 hm
          have h1 := ZL.out hi x (Nat.le_refl _) hx
          obtain ⟨q1, rfl⟩ := List.getElem?_eq_some_iff.1 hx
          rcases Nat.lt_trichotomy j hi with h | h | h
          · have := AL.out j _ h (List.getElem?_eq_getElem hj); omega
          · subst h; rfl
          · have := HS.out hi j q1 hj h; omega
        · rintro rfl
          exact List.mem_of_getElem? hx
      by_cases hn : hi < n
      · obtain ⟨x, hx⟩ : ∃ x, l[hi]? = some x := ⟨_, List.getElem?_eq_getElem (by have := HN.out; omega)⟩
        obtain ⟨p, ix, _, px⟩ := elI HL.out rfl HN.out.symm hx
        have p0 := px wr (Below.refl _ _)
        have g4 : decide ((hi : Int) < (n : Int)) = true := by simp; omega
        have MK := memk x hx
        clear memk px
        by_cases he : x = t
        · have TH := Lib.hid (show th = true by rw [HT.out, decide_eq_true (MK.2 he)])
          have g5 : (x == t) = true := by simp [he]
          clear hx MK he hlt
          go_wp2_with (go_at_call 135; refine (isNaN2_any _ _).mono ?_; rintro e w' ⟨rfl, rfl⟩)
          go_ret2
          exact ⟨⟨hi, by rw [TH.out]; rfl⟩, rfl⟩
        · have TH := Lib.hid (show th = false by rw [HT.out, decide_eq_false (fun h => he (MK.1 h))])
          have g5 : (x == t) = false := by simp [he]
          clear hx MK he hlt
          go_wp2_with (go_at_call 135; refine (isNaN2_any _ _).mono ?_; rintro e w' ⟨rfl, rfl⟩)
          go_ret2
          exact ⟨⟨hi, by rw [TH.out]; rfl⟩, rfl⟩
      · have TH := Lib.hid (show th = false by
          rw [HT.out]
          refine decide_eq_false fun hm => ?_
          obtain ⟨j, hj, hjt⟩ := List.mem_iff_getElem.1 hm
          have := AL.out j _ (by have := HN.out; omega) (List.getElem?_eq_getElem hj)
          omega)
        have g4 : decide ((hi : Int) < (n : Int)) = false := by simp; omega
        clear hlt memk
        go_wp2_with fail
        go_ret2
        exact ⟨⟨hi, by rw [TH.out]; rfl⟩, rfl⟩
/-- May something come from there? -/
def comesB (near : List Int) (f : Int) : Bool := decide (f ∈ near) || f == -1
set_option maxRecDepth 100000 in
theorem comes_any (me : Int) (nv : Sl) (z2 z3 z4 z5 : Value) (l : List Int) (f : Int) (w : World) (hn : RowI w (slv nv) l) (hs : l.Pairwise (· ≤ ·)) (hl : l.length ≤ 900) :
    Calls Tryz.prog 93 #[.agg #[.int .i64 me, slv nv, z2, z3, z4, z5], .int .i64 f] w fun e w' => e = .returned (.bool (comesB l f)) ∧ Below w.heap.size w w' := by
  obtain ⟨o1, n1, c1⟩ := nv
  have n0 := newB w (.cells #[.int .i64 me, .slice o1 n1 c1, z2, z3, z4, z5] 29)
  have X := box_new w #[.int .i64 me, .slice o1 n1 c1, z2, z3, z4, z5] 29
  have C := Lib.hid (bsI_any (.slice o1 n1 c1) l f _ (hn.on n0) hs hl)
  have x1 := X.cell 1
  simp only [List.getElem?_toArray, List.getElem?_cons_zero, List.getElem?_cons_succ] at x1
  have R := Lib.hid (show comesB l f = (decide (f ∈ l) || f == -1) from rfl)
  generalize comesB l f = res at *
  generalize decide (f ∈ l) = r at *
  have B0 := Lib.hid n0
  obtain ⟨q, hq⟩ : ∃ q, (f == -1) = q := ⟨_, rfl⟩
  rw [hq] at R
  clear n0 X hn hs hl
  go_enter Tryz.func93, Tryz.ntmps93
  go_wp2_with fail
  refine C.out.mono ?_
  rintro e w1 ⟨⟨k, rfl⟩, rfl⟩
  cases r
  · go_wp2_with fail
    go_ret
    exact ⟨by rw [R.out]; rfl, B0.out⟩
  · go_wp2_with fail
    go_ret
    exact ⟨by rw [R.out]; rfl, B0.out⟩
end Go.Proofs.YtonoadjmglkhaaaGreat.Av

namespace Go.Proofs.YtonoadjmglkhaaaGreat.Wi
open Go.RowKit

/-- n brought into lo .. hi. -/
def within (n lo hi : Int) : Int := lo + n % (hi - lo + 1)
theorem within_bd (n lo hi : Int) (h : lo ≤ hi) : lo ≤ within n lo hi ∧ within n lo hi ≤ hi := by
  unfold within
  have h1 := Int.emod_nonneg n (show hi - lo + 1 ≠ 0 by omega)
  have h2 := Int.emod_lt_of_pos n (show 0 < hi - lo + 1 by omega)
  omega
theorem within_pos (n lo hi : Int) (h : lo ≤ hi) (hn : ¬ n.tmod (hi - lo + 1) < 0) : lo + n.tmod (hi - lo + 1) = within n lo hi := by
  unfold within
  rw [Int.tmod_eq_emod] at hn ⊢
  split at hn
  · rename_i h0; rw [if_pos h0]; omega
  · rename_i h0
    rw [if_neg h0] at *
    have h2 := Int.emod_lt_of_pos n (show 0 < hi - lo + 1 by omega)
    have : ((hi - lo + 1).natAbs : Int) = hi - lo + 1 := by omega
    omega
theorem within_neg (n lo hi : Int) (h : lo ≤ hi) (hn : n.tmod (hi - lo + 1) < 0) : lo + (n.tmod (hi - lo + 1) + hi - lo + 1) = within n lo hi := by
  unfold within
  rw [Int.tmod_eq_emod] at hn ⊢
  split at hn
  · have h1 := Int.emod_nonneg n (show hi - lo + 1 ≠ 0 by omega)
    omega
  · rename_i h0
    rw [if_neg h0] at *
    have : ((hi - lo + 1).natAbs : Int) = hi - lo + 1 := by omega
    omega
theorem tmod_bd (n m : Int) (h : 0 < m) : -m < n.tmod m ∧ n.tmod m < m := by
  rw [Int.tmod_eq_emod]
  have h1 := Int.emod_nonneg n (show m ≠ 0 by omega)
  have h2 := Int.emod_lt_of_pos n h
  split <;> omega
theorem ret_int {k : IntKind} {a b : Int} (h : a = b) : Ending.returned (.int k a) = .returned (.int k b) := by rw [h]

set_option maxHeartbeats 1000000 in
theorem within_any (n lo hi : Int) (w : World) (h : lo ≤ hi) (h1 : -1000000 ≤ lo) (h2 : hi ≤ 1000000) (_hn1 : -9223372036854775808 ≤ n) (_hn2 : n ≤ 9223372036854775807) :
    Calls Tryz.prog 7 #[.int .i64 n, .int .i64 lo, .int .i64 hi] w fun e w' => e = .returned (.int .i64 (within n lo hi)) ∧ w = w' := by
  have hm : 0 < hi - lo + 1 := by omega
  have hm2 : hi - lo + 1 ≤ 2000001 := by omega
  have hb := tmod_bd n (hi - lo + 1) hm
  have P := Lib.hid (within_pos n lo hi h)
  have Q := Lib.hid (within_neg n lo hi h)
  go_enter Tryz.func7, Tryz.ntmps7
  go_wp2
  · go_ret
    exact ⟨ret_int (Q.out (by omega)), rfl⟩
  · go_ret
    exact ⟨ret_int (P.out (by omega)), rfl⟩

end Go.Proofs.YtonoadjmglkhaaaGreat.Wi
