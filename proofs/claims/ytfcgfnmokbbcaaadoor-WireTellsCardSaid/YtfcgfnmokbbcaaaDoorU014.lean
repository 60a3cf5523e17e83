/-
  Same of two lists of constraints, of the statements' own package. Condition: lists far below a machine's length.
  Messages in memory; Messages of the statements' own package: are two the same? Condition: lists far below a machine's length.
-/
import Derived.Test.YtfcgfnmokbbcaaaDoorU011
import Derived.Test.YtfcgfnmokbbcaaaDoorU008
import Derived.Lib.Hide
import Derived.Lib.QuietBelow
import Derived.BigQuiet
import Derived.Test.YtfcgfnmokbbcaaaDoorU012
import Derived.Test.YtfcgfnmokbbcaaaDoorU013
import Derived.Test.YtfcgfnmokbbcaaaDoorU009
namespace Go.Proofs.YtfcgfnmokbbcaaaDoor.Pr
open Go.RowKit Go.Sort Go.Proofs.YtfcgfnmokbbcaaaDoor Go.Proofs.YtfcgfnmokbbcaaaDoor.Pu Go.Proofs.YtfcgfnmokbbcaaaDoor.Rw Go.Proofs.YtfcgfnmokbbcaaaDoor.Va

/-- Are the lists the same? -/
def sameC : List C5 → List C5 → Bool
  | [], [] => true
  | x :: l, y :: m => eqlC x y && sameC l m
  | _, _ => false
theorem sameC_len : ∀ l m, sameC l m = true → l.length = m.length
  | [], [], _ => rfl
  | x :: l, y :: m, h => by
    simp only [sameC, Bool.and_eq_true] at h
    simp [sameC_len l m h.2]
  | [], y :: m, h => by simp [sameC] at h
  | x :: l, [], h => by simp [sameC] at h
theorem sameC_all : ∀ l m, l.length = m.length → (∀ (k : Nat) (x y : C5), l[k]? = some x → m[k]? = some y → eqlC x y = true) → sameC l m = true
  | [], [], _, _ => rfl
  | x :: l, y :: m, hl, h => by
    simp only [sameC, Bool.and_eq_true]
    exact ⟨h 0 x y rfl rfl, sameC_all l m (by simpa using hl) (fun k a b ha hb => h (k + 1) a b (by simpa using ha) (by simpa using hb))⟩
  | [], y :: m, hl, _ => by simp at hl
  | x :: l, [], hl, _ => by simp at hl
theorem sameC_not : ∀ (l m : List C5) (k : Nat) (x y : C5), l[k]? = some x → m[k]? = some y → eqlC x y = false → sameC l m = false
  | [], _, k, x, y, h, _, _ => by simp at h
  | _ :: _, [], k, x, y, _, h, _ => by simp at h
  | a :: l, b :: m, 0, x, y, h1, h2, h3 => by
    simp at h1 h2
    subst h1 h2
    simp [sameC, h3]
  | a :: l, b :: m, k + 1, x, y, h1, h2, h3 => by
    simp only [sameC, sameC_not l m k x y (by simpa using h1) (by simpa using h2) h3, Bool.and_false]
theorem sameC_iff : ∀ l m : List C5, sameC l m = true ↔ l = m
  | [], [] => by simp [sameC]
  | x :: l, y :: m => by
    simp only [sameC, Bool.and_eq_true, eqlC_iff, sameC_iff l m, List.cons.injEq]
  | [], y :: m => by simp [sameC]
  | x :: l, [] => by simp [sameC]
theorem sameC_refl (l : List C5) : sameC l l = true := (sameC_iff l l).2 rfl

set_option maxRecDepth 100000 in
set_option maxHeartbeats 4000000 in
theorem sameC_any (av_ bv : Value) (l m : List C5) (w : World) (ha : RowC w av_ l) (hb : RowC w bv m) (hl : l.length ≤ 1000000) (_hm : m.length ≤ 1000000) :
    Calls Tryd.prog 42 #[av_, bv] w fun e w' => e = .returned (.bool (sameC l m)) ∧ Below w.heap.size w w' := by
  have HA := Lib.hid ha
  have HB := Lib.hid hb
  obtain ⟨ao, ac, rfl⟩ := ha.len
  obtain ⟨bo, bc, rfl⟩ := hb.len
  clear ha hb
  by_cases hlen : l.length = m.length
  · have HL := Lib.hid hlen
    rw [← hlen] at HB ⊢
    generalize hn : l.length = n at *
    have HN := Lib.hid hn
    clear hlen hn
    go_enter Tryd.func42, Tryd.ntmps42
    go_wp2
    go_loopw [5] (fun i wr => ∃ k : Nat, k ≤ n ∧ i = .int .i64 k ∧ Below w.heap.size w wr ∧ ∀ (j : Nat) (x y : C5), j < k → l[j]? = some x → m[j]? = some y → eqlC x y = true) (fun i _ => n - (intOf i).toNat)
    case atStart => exact ⟨0, Nat.zero_le _, rfl, Below.refl _ _, fun j x y h => by omega⟩
    case round =>
      obtain ⟨k, hk, rfl, hbe, hall⟩ := hrel
      have BE := Lib.hid hbe
      have AL := Lib.hid hall
      clear hbe hall
      by_cases hlt : k < n
      · obtain ⟨x, hx⟩ : ∃ x, l[k]? = some x := ⟨_, List.getElem?_eq_getElem (by rw [HN.out]; exact hlt)⟩
        obtain ⟨y, hy⟩ : ∃ y, m[k]? = some y := ⟨_, List.getElem?_eq_getElem (by rw [← HL.out]; exact hlt)⟩
        obtain ⟨p, ix, px⟩ := elC HA.out rfl HN.out hx
        obtain ⟨q, iy, py⟩ := elC HB.out rfl HL.out.symm hy
        have p0 := cell_regrown (px _ BE.out).1
        have p1 := cell_regrown (px _ BE.out).2.1
        have p2 := cell_regrown (px _ BE.out).2.2.1
        have p3 := cell_regrown (px _ BE.out).2.2.2.1
        have p4 := cell_regrown (px _ BE.out).2.2.2.2
        have q0 := cell_regrown (py _ BE.out).1
        have q1 := cell_regrown (py _ BE.out).2.1
        have q2 := cell_regrown (py _ BE.out).2.2.1
        have q3 := cell_regrown (py _ BE.out).2.2.2.1
        have q4 := cell_regrown (py _ BE.out).2.2.2.2
        clear px py
        obtain ⟨r, hr⟩ : ∃ r, eqlC x y = r := ⟨_, rfl⟩
        have hne := neqC x y r hr
        have HX := Lib.hid hx
        have HY := Lib.hid hy
        have HR := Lib.hid hr
        clear hx hy hr
        cases r
        · have R := Lib.hid (show sameC l m = false from sameC_not l m k x y HX.out HY.out HR.out)
          go_wp2
          refine wp_region_quiet_below (by kernel_rfl) (by kernel_rfl) ?_
          repeat (go_big_quiet_step (fail))
          refine wpQuiet_nil ?_
          intro _ hw'
          obtain ⟨⟨dq, osq⟩, hw''⟩ := hw'
          subst hw''
          go_wp2
          go_ret
          exact ⟨ret_bool R.out.symm, BE.out.trans ((below_regrown wr dq osq).mono BE.out.size)⟩
        · go_wp2
          refine wp_region_quiet_below (by kernel_rfl) (by kernel_rfl) ?_
          repeat (go_big_quiet_step (fail))
          refine wpQuiet_nil ?_
          intro _ hw'
          obtain ⟨⟨dq, osq⟩, hw''⟩ := hw'
          subst hw''
          clear ix iy p0 p1 p2 p3 p4 q0 q1 q2 q3 q4 hne
          go_wp2
          go_roundw
          case rel => exact ⟨k + 1, by omega, by go_num, BE.out.trans ((below_regrown wr dq osq).mono BE.out.size), fun j x' y' hj h1 h2 => by
            rcases Nat.lt_or_ge j k with h3 | h3
            · exact AL.out j x' y' h3 h1 h2
            · obtain rfl : j = k := by omega
              have e1 := HX.out
              have e2 := HY.out
              rw [h1] at e1
              rw [h2] at e2
              rw [Option.some.inj e1, Option.some.inj e2]
              exact HR.out⟩
          case measure => simp [intOf]; omega
      · obtain rfl : k = n := by omega
        have R := Lib.hid (show sameC l m = true from sameC_all l m (by rw [HN.out]; exact HL.out) (fun j a b h1 h2 => AL.out j a b (by have := (List.getElem?_eq_some_iff.1 h1).1; have := HN.out; omega) h1 h2))
        go_wp2
        go_ret
        exact ⟨ret_bool R.out.symm, BE.out⟩
  · have R := Lib.hid (show sameC l m = false by
      cases h : sameC l m
      · rfl
      · exact absurd (sameC_len _ _ h) hlen)
    have hne : (((l.length : Nat) : Int) != ((m.length : Nat) : Int)) = true := by simp; omega
    have hne2 : (((l.length : Nat) : Int) == ((m.length : Nat) : Int)) = false := by simp; omega
    clear hlen
    go_enter Tryd.func42, Tryd.ntmps42
    go_wp2
    go_ret
    exact ⟨ret_bool R.out.symm, Below.refl _ _⟩

end Go.Proofs.YtfcgfnmokbbcaaaDoor.Pr

namespace Go.Proofs.YtfcgfnmokbbcaaaDoor.Wr
open Go.RowKit Go.Proofs.YtfcgfnmokbbcaaaDoor Go.Proofs.YtfcgfnmokbbcaaaDoor.Rw Go.Proofs.YtfcgfnmokbbcaaaDoor.Nm Go.Proofs.YtfcgfnmokbbcaaaDoor.At Go.Proofs.YtfcgfnmokbbcaaaDoor.Pr

/-- A message, as a value. -/
abbrev mv (m : Mg) (pv lv : Value) : Value := .agg #[.int .i64 m.k, .int .i64 m.tc, .int .i64 m.ts, .int .i64 m.ic, .int .i64 m.is, pv, lv]
abbrev mcells (m : Mg) (pv lv : Value) : Array Value := #[.int .i64 m.k, .int .i64 m.tc, .int .i64 m.ts, .int .i64 m.ic, .int .i64 m.is, pv, lv]
/-- Its lists in memory. -/
structure MgIn (W : World) (m : Mg) (pv lv : Value) : Prop where
  p : RowC W pv m.p
  l : RowA W lv m.l
theorem MgIn.on {W W' : World} {m : Mg} {pv lv : Value} (h : MgIn W m pv lv) (hb : Below W.heap.size W W') : MgIn W' m pv lv := ⟨h.p.on hb, h.l.on hb⟩
theorem stoodID : Tryd.prog.stoodInHeld 28 = false := by kernel_rfl
theorem eqID (a b c d : Int) (w : World) : (binOp .eql 28 (.agg #[.int .i64 a, .int .i64 b]) (.agg #[.int .i64 c, .int .i64 d])).run Tryd.prog w = .ok (.bool (a == c && b == d)) w := by
  have st := stoodID
  by_cases h1 : a = c <;> by_cases h2 : b = d <;> simp [go_sem, Tryd.underlying28, Tryd.underlying3, st, h1, h2]
theorem neID (a b c d : Int) (w : World) : (binOp .neq 28 (.agg #[.int .i64 a, .int .i64 b]) (.agg #[.int .i64 c, .int .i64 d])).run Tryd.prog w = .ok (.bool (!(a == c && b == d))) w := by
  have st := stoodID
  by_cases h1 : a = c <;> by_cases h2 : b = d <;> simp [go_sem, Tryd.underlying28, Tryd.underlying3, st, h1, h2]
/-- Are two messages the same? -/
def sameM (a b : Mg) : Bool := a.k == b.k && ((a.tc == b.tc && a.ts == b.ts) && ((a.ic == b.ic && a.is == b.is) && (sameC a.p b.p && sameL a.l b.l)))
theorem eqlA_iff (x y : A4) : eqlA x y = true ↔ x = y := by
  obtain ⟨a, b, c, d⟩ := x
  obtain ⟨a', b', c', d'⟩ := y
  unfold eqlA
  simp only [Bool.and_eq_true, beq_iff_eq, Prod.mk.injEq]
  have e : ∀ s t : ByteArray, s.toList = t.toList ↔ s = t := fun s t => ⟨fun h => WideShapes.bytes_inj (by rwa [ByteArray.toList_eq, ByteArray.toList_eq] at h), fun h => by rw [h]⟩
  rw [e, e, and_assoc]
theorem sameL_iff : ∀ l m : List A4, sameL l m = true ↔ l = m
  | [], [] => by simp [sameL]
  | [], y :: m => by simp [sameL]
  | x :: l, [] => by simp [sameL]
  | x :: l, y :: m => by
    have h := sameL_iff l m
    have h2 := eqlA_iff x y
    simp only [sameL, Bool.and_eq_true, List.cons.injEq, h, h2]
theorem sameM_iff (a b : Mg) : sameM a b = true ↔ a = b := by
  obtain ⟨k, tc, ts, ic, is, p, l⟩ := a
  obtain ⟨k', tc', ts', ic', is', p', l'⟩ := b
  unfold sameM
  simp only [Bool.and_eq_true, beq_iff_eq, sameC_iff, sameL_iff, Mg.mk.injEq]
  constructor
  · rintro ⟨h1, ⟨h2, h3⟩, ⟨h4, h5⟩, h6, h7⟩; exact ⟨h1, h2, h3, h4, h5, h6, h7⟩
  · rintro ⟨h1, h2, h3, h4, h5, h6, h7⟩; exact ⟨h1, ⟨h2, h3⟩, ⟨h4, h5⟩, h6, h7⟩
theorem sameM_refl (a : Mg) : sameM a a = true := (sameM_iff a a).2 rfl
set_option maxRecDepth 100000 in
set_option maxHeartbeats 8000000 in
theorem messages_any (a b : Mg) (pa la pb lb : Value) (w : World) (ha : MgIn w a pa la) (hb : MgIn w b pb lb) (l1 : a.p.length ≤ 1000) (l2 : b.p.length ≤ 1000) (l3 : a.l.length ≤ 1000) (l4 : b.l.length ≤ 1000) :
    Calls Tryd.prog 16 #[mv a pa la, mv b pb lb] w fun e w' => e = .returned (.bool (sameM a b)) ∧ Below w.heap.size w w' := by
  obtain ⟨k, tc, ts, ic, is, p, l⟩ := a
  obtain ⟨k', tc', ts', ic', is', p', l'⟩ := b
  have S := Lib.hid (show sameM ⟨k, tc, ts, ic, is, p, l⟩ ⟨k', tc', ts', ic', is', p', l'⟩ = (k == k' && ((tc == tc' && ts == ts') && ((ic == ic' && is == is') && (sameC p p' && sameL l l')))) from rfl)
  have B2 := Lib.hid ((new_below w (.cells (mcells ⟨k, tc, ts, ic, is, p, l⟩ pa la) 32)).alloc (by simp) (.cells (mcells ⟨k', tc', ts', ic', is', p', l'⟩ pb lb) 32))
  have X1 := Lib.hid ((box_new w (mcells ⟨k, tc, ts, ic, is, p, l⟩ pa la) 32).more (.cells (mcells ⟨k', tc', ts', ic', is', p', l'⟩ pb lb) 32))
  have X2 := Lib.hid (box_new (w.alloc (.cells (mcells ⟨k, tc, ts, ic, is, p, l⟩ pa la) 32)) (mcells ⟨k', tc', ts', ic', is', p', l'⟩ pb lb) 32)
  have PA := Lib.hid (ha.p.on B2.out)
  have PB := Lib.hid (hb.p.on B2.out)
  have LA := Lib.hid (ha.l.on B2.out)
  have LB := Lib.hid (hb.l.on B2.out)
  obtain ⟨pao, pac, rfl⟩ := ha.p.len
  obtain ⟨pbo, pbc, rfl⟩ := hb.p.len
  obtain ⟨lao, lac, rfl⟩ := ha.l.len
  obtain ⟨lbo, lbc, rfl⟩ := hb.l.len
  have e1 := eqID tc ts tc' ts'
  have e2 := eqID ic is ic' is'
  generalize (tc == tc' && ts == ts') = b2 at *
  generalize (ic == ic' && is == is') = b3 at *
  obtain ⟨b1, hb1⟩ : ∃ b1, (k == k') = b1 := ⟨_, rfl⟩
  rw [hb1] at S
  have SP := Lib.hid (fun w' (hb : Below _ _ w') => sameC_any _ _ p p' w' (PA.out.on hb) (PB.out.on hb) (by simp at l1; omega) (by simp at l2; omega))
  have SL := Lib.hid (fun w' (hb : Below _ _ w') => sameA_any _ _ l l' w' (LA.out.on hb) (LB.out.on hb) (by simp at l3; omega) (by simp at l4; omega))
  clear ha hb PA PB LA LB l1 l2 l3 l4
  generalize sameC p p' = b4 at *
  generalize sameL l l' = b5 at *
  cases b1
  · go_enter Tryd.func16, Tryd.ntmps16
    go_wp2
    go_ret
    exact ⟨by rw [S.out]; rfl, B2.out⟩
  cases b2
  · go_enter Tryd.func16, Tryd.ntmps16
    go_wp2
    go_ret
    exact ⟨by rw [S.out]; rfl, B2.out⟩
  cases b3
  · go_enter Tryd.func16, Tryd.ntmps16
    go_wp2
    go_ret
    exact ⟨by rw [S.out]; rfl, B2.out⟩
  go_enter Tryd.func16, Tryd.ntmps16
  go_wp2_with fail
  refine (SP.out _ (Below.refl _ _)).mono ?_
  rintro e3 w3 ⟨rfl, hb⟩
  have B3 := Lib.hid (B2.out.trans (hb.mono B2.out.size))
  have SL3 := Lib.hid (SL.out w3 hb)
  have Y1 := X1.out.on hb
  have Y2 := X2.out.on hb
  have c4 := Y1.cell 6
  have d4 := Y2.cell 6
  simp at c4 d4
  clear hb SP SL X1 X2 Y1 Y2 B2
  cases b4
  · go_wp2_with fail
    go_ret
    exact ⟨by rw [S.out]; rfl, B3.out⟩
  go_wp2_with fail
  refine SL3.out.mono ?_
  rintro e4 w4 ⟨rfl, hb⟩
  have B4 := Lib.hid (B3.out.trans (hb.mono B3.out.size))
  clear hb SL3 B3
  go_wp2_with fail
  go_ret
  exact ⟨by rw [S.out]; rfl, B4.out⟩
end Go.Proofs.YtfcgfnmokbbcaaaDoor.Wr
