/-
  RightOne and Right of package pred, on any list. Condition: texts below a machine's length.
  clear of the end of a row of one's own; what DeleteFunc does to a list. No program's function in it.
  Forget's closure, slices.IndexFunc and slices.DeleteFunc of advertisements of one tree. Condition: the row is one's own.
-/
import Derived.Test.YtonoadjmglkhaaaGreatV025
import Derived.Test.YtonoadjmglkhaaaGreatV026
import Derived.Test.YtonoadjmglkhaaaGreatV023
import Derived.Test.YtonoadjmglkhaaaGreatV008
import Derived.Test.YtonoadjmglkhaaaGreatV018
import Derived.Test.YtonoadjmglkhaaaGreatV019
import Derived.Laws.IdiomCopy
namespace Go.Proofs.YtonoadjmglkhaaaGreat.Avp
open Go.RowKit Go.Sort Go.Proofs.YtonoadjmglkhaaaGreat Go.Proofs.YtonoadjmglkhaaaGreat.Rw Go.Proofs.YtonoadjmglkhaaaGreat.Nm Go.Proofs.YtonoadjmglkhaaaGreat.At Go.Proofs.YtonoadjmglkhaaaGreat.Pr Go.Proofs.YtonoadjmglkhaaaGreat.Wr Go.Proofs.YtonoadjmglkhaaaGreat.Va

theorem new_below (w : World) (o : Obj) : Below w.heap.size w (w.alloc o) := (Below.refl _ _).alloc (Nat.le_refl _) _
theorem noText_is (t : ByteArray) : t.toList.isEmpty = decide (t.size = 0) := by
  rw [ByteArray.toList_eq]
  obtain ⟨⟨l⟩⟩ := t
  cases l <;> simp [ByteArray.size]
theorem name_at (s : ByteArray) (w : World) (hs : s.size ≤ maxLen) :
    Calls Tryz.prog 122 #[.string s] w fun e w' => e = .returned (.bool (nameB s)) ∧ w = w' := Pr.name_same s w hs

set_option maxRecDepth 100000 in
set_option maxHeartbeats 4000000 in
theorem pone_range (s t : ByteArray) (lo hi : Int) (w : World) (hs : s.size ≤ maxLen) :
    Calls Tryz.prog 94 #[cv (s, 1, lo, hi, t)] w fun e w' => e = .returned (.bool (oneB (s, 1, lo, hi, t))) ∧ Below w.heap.size w w' := by
  have B := Lib.hid (new_below w (.cells #[.string s, .int .i64 1, .int .i64 lo, .int .i64 hi, .string t] 62))
  have NM := Lib.hid (fun w => name_at s w hs)
  have R := Lib.hid (show oneB (s, 1, lo, hi, t) = (At.nameB s && (decide (lo ≤ hi) && t.toList.isEmpty)) by simp [oneB, noText_is, Bool.and_comm])
  generalize At.nameB s = b at *
  cases b
  · go_enter Tryz.func94, Tryz.ntmps94
    go_wp2_with fail
    refine (NM.out _).mono ?_
    rintro e w' ⟨rfl, rfl⟩
    go_wp2
    go_ret
    exact ⟨by rw [R.out]; rfl, B.out⟩
  obtain ⟨b1, h1⟩ : ∃ b, decide (lo ≤ hi) = b := ⟨_, rfl⟩
  rw [h1] at R
  cases b1
  · go_enter Tryz.func94, Tryz.ntmps94
    go_wp2_with fail
    refine (NM.out _).mono ?_
    rintro e w' ⟨rfl, rfl⟩
    go_wp2
    go_ret
    exact ⟨by rw [R.out]; rfl, B.out⟩
  by_cases he : t.toList = []
  · have R2 := Lib.hid (show oneB (s, 1, lo, hi, t) = true by rw [R.out, he]; rfl)
    go_enter Tryz.func94, Tryz.ntmps94
    go_wp2_with fail
    refine (NM.out _).mono ?_
    rintro e w' ⟨rfl, rfl⟩
    go_wp2
    go_ret
    exact ⟨by rw [R2.out]; rfl, B.out⟩
  · have he2 : t.toList.isEmpty = false := by simpa using he
    have R2 := Lib.hid (show oneB (s, 1, lo, hi, t) = false by rw [R.out, he2]; rfl)
    go_enter Tryz.func94, Tryz.ntmps94
    go_wp2_with fail
    refine (NM.out _).mono ?_
    rintro e w' ⟨rfl, rfl⟩
    go_wp2
    go_ret
    exact ⟨by rw [R2.out]; rfl, B.out⟩
theorem oneB_text2 (s t : ByteArray) (lo hi : Int) : oneB (s, 2, lo, hi, t) = (At.nameB s && ((lo == 0) && ((hi == 0) && decide ((t.size : Int) ≤ 12)))) := by
  have e : ∀ x : Int, decide (x = 0) = (x == 0) := fun x => by rw [Bool.eq_iff_iff]; simp
  have e3 : decide ((t.size : Int) ≤ 12) = decide (t.size ≤ 12) := by rw [Bool.eq_iff_iff]; simp; omega
  unfold oneB
  simp [e, e3]
theorem oneB_text3 (s t : ByteArray) (lo hi : Int) : oneB (s, 3, lo, hi, t) = (At.nameB s && (!decide ((12 : Int) ≤ (t.size : Int)) && ((lo == 0) && (hi == 0)))) := by
  have e : ∀ x : Int, decide (x = 0) = (x == 0) := fun x => by rw [Bool.eq_iff_iff]; simp
  unfold oneB
  simp only [e]
  rw [Bool.eq_iff_iff]
  simp
  omega
set_option maxRecDepth 100000 in
set_option maxHeartbeats 8000000 in
theorem pone_text (s t : ByteArray) (lo hi : Int) (w : World) (hs : s.size ≤ maxLen) (_ht : t.size ≤ maxLen) :
    Calls Tryz.prog 94 #[cv (s, 2, lo, hi, t)] w fun e w' => e = .returned (.bool (oneB (s, 2, lo, hi, t))) ∧ Below w.heap.size w w' := by
  have B := Lib.hid (new_below w (.cells #[.string s, .int .i64 2, .int .i64 lo, .int .i64 hi, .string t] 62))
  have NM := Lib.hid (fun w => name_at s w hs)
  have R := Lib.hid (oneB_text2 s t lo hi)
  generalize At.nameB s = b at *
  obtain ⟨b1, h1⟩ : ∃ x, (lo == 0) = x := ⟨_, rfl⟩
  obtain ⟨b2, h2⟩ : ∃ x, (hi == 0) = x := ⟨_, rfl⟩
  obtain ⟨b3, h3⟩ : ∃ x, decide ((t.size : Int) ≤ 12) = x := ⟨_, rfl⟩
  rw [h1, h2, h3] at R
  cases b <;> cases b1 <;> cases b2 <;> cases b3 <;> (
    go_enter Tryz.func94, Tryz.ntmps94
    go_wp2_with fail
    refine (NM.out _).mono ?_
    rintro e w' ⟨rfl, rfl⟩
    go_wp2
    go_ret
    exact ⟨by rw [R.out]; rfl, B.out⟩)
set_option maxRecDepth 100000 in
set_option maxHeartbeats 8000000 in
theorem pone_prefix (s t : ByteArray) (lo hi : Int) (w : World) (hs : s.size ≤ maxLen) (_ht : t.size ≤ maxLen) :
    Calls Tryz.prog 94 #[cv (s, 3, lo, hi, t)] w fun e w' => e = .returned (.bool (oneB (s, 3, lo, hi, t))) ∧ Below w.heap.size w w' := by
  have B := Lib.hid (new_below w (.cells #[.string s, .int .i64 3, .int .i64 lo, .int .i64 hi, .string t] 62))
  have NM := Lib.hid (fun w => name_at s w hs)
  have R := Lib.hid (oneB_text3 s t lo hi)
  have h4 : decide ((12 : Int) ≤ (t.size : Int)) = false → decide ((t.size : Int) ≤ 12) = true := by
    intro h
    simp at h ⊢
    omega
  generalize At.nameB s = b at *
  obtain ⟨b1, h1⟩ : ∃ x, (lo == 0) = x := ⟨_, rfl⟩
  obtain ⟨b2, h2⟩ : ∃ x, (hi == 0) = x := ⟨_, rfl⟩
  obtain ⟨b3, h3⟩ : ∃ x, decide ((12 : Int) ≤ (t.size : Int)) = x := ⟨_, rfl⟩
  rw [h1, h2, h3] at R
  cases b3
  · have h5 := h4 h3
    clear h4
    cases b <;> cases b1 <;> cases b2 <;> (
      go_enter Tryz.func94, Tryz.ntmps94
      go_wp2_with fail
      refine (NM.out _).mono ?_
      rintro e w' ⟨rfl, rfl⟩
      go_wp2
      go_ret
      exact ⟨by rw [R.out]; rfl, B.out⟩)
  · clear h4
    cases b <;> (
      go_enter Tryz.func94, Tryz.ntmps94
      go_wp2_with fail
      refine (NM.out _).mono ?_
      rintro e w' ⟨rfl, rfl⟩
      go_wp2
      go_ret
      exact ⟨by rw [R.out]; rfl, B.out⟩)
set_option maxRecDepth 100000 in
set_option maxHeartbeats 8000000 in
theorem pone_other (s t : ByteArray) (k lo hi : Int) (w : World) (hs : s.size ≤ maxLen) (h1 : k ≠ 1) (h2 : k ≠ 2) (h3 : k ≠ 3) :
    Calls Tryz.prog 94 #[cv (s, k, lo, hi, t)] w fun e w' => e = .returned (.bool (oneB (s, k, lo, hi, t))) ∧ Below w.heap.size w w' := by
  have B := Lib.hid (new_below w (.cells #[.string s, .int .i64 k, .int .i64 lo, .int .i64 hi, .string t] 62))
  have NM := Lib.hid (fun w => name_at s w hs)
  have R := Lib.hid (show oneB (s, k, lo, hi, t) = false by simp [oneB, h1, h2, h3])
  have e1 : (k == 1) = false := by simpa using h1
  have e2 : (k == 2) = false := by simpa using h2
  have e3 : (k == 3) = false := by simpa using h3
  clear h1 h2 h3
  generalize At.nameB s = b at *
  cases b <;> (
    go_enter Tryz.func94, Tryz.ntmps94
    go_wp2_with fail
    refine (NM.out _).mono ?_
    rintro e w' ⟨rfl, rfl⟩
    go_wp2
    go_ret
    exact ⟨by rw [R.out]; rfl, B.out⟩)
theorem pone_any (c : C5) (w : World) (hs : c.1.size ≤ maxLen) (ht : c.2.2.2.2.size ≤ maxLen) :
    Calls Tryz.prog 94 #[cv c] w fun e w' => e = .returned (.bool (oneB c)) ∧ Below w.heap.size w w' := by
  obtain ⟨s, k, lo, hi, t⟩ := c
  by_cases h1 : k = 1
  · subst h1; exact pone_range s t lo hi w hs
  by_cases h2 : k = 2
  · subst h2; exact pone_text s t lo hi w hs ht
  by_cases h3 : k = 3
  · subst h3; exact pone_prefix s t lo hi w hs ht
  exact pone_other s t k lo hi w hs h1 h2 h3
set_option maxRecDepth 100000 in
set_option maxHeartbeats 8000000 in
theorem pright_any (lv : Value) (l : List C5) (w : World) (hl : RowC w lv l) (hs : ∀ x ∈ l, x.1.size ≤ maxLen ∧ x.2.2.2.2.size ≤ maxLen) :
    Calls Tryz.prog 69 #[lv] w fun e w' => e = .returned (.bool (rightP l)) ∧ Below w.heap.size w w' := by
  have HL := Lib.hid hl
  have HS := Lib.hid hs
  have HM := Lib.hid hl.most
  obtain ⟨ao, ac, rfl⟩ := hl.len
  clear hl hs
  by_cases hfew : l.length ≤ 5
  · have d0 : decide ((5 : Int) < (l.length : Int)) = false := by simp; omega
    go_enter Tryz.func69, Tryz.ntmps69
    go_wp2
    go_loopw [10] (fun i wr => ∃ k : Nat, k ≤ l.length ∧ i = .int .i64 k ∧ Below w.heap.size w wr ∧ ∀ j, j < k → goodP l j = true) (fun i _ => l.length - (intOf i).toNat)
    case atStart => exact ⟨0, Nat.zero_le _, rfl, Below.refl _ _, fun j h => by omega⟩
    case round =>
      obtain ⟨k, hk, rfl, hb, hall⟩ := hrel
      have HB := Lib.hid hb
      have AL := Lib.hid hall
      clear hb hall d0
      by_cases hlt : k < l.length
      · obtain ⟨⟨xn, xk, xi, xj, xs⟩, hx⟩ : ∃ x, l[k]? = some x := ⟨_, List.getElem?_eq_getElem hlt⟩
        obtain ⟨p, ix, px⟩ := elC HL.out rfl rfl hx
        obtain ⟨p0, p1, p2, p3, p4⟩ := px _ HB.out
        have hsz := HS.out _ (List.mem_of_getElem? hx)
        have C := Lib.hid (pone_any (xn, xk, xi, xj, xs) (wr.alloc (.cells #[.string xn, .int .i64 xk, .int .i64 xi, .int .i64 xj, .string xs] 62)) hsz.1 hsz.2)
        have B4 := Lib.hid (HB.out.alloc HB.out.size (.cells #[.string xn, .int .i64 xk, .int .i64 xi, .int .i64 xj, .string xs] 62))
        have X4 := Lib.hid (box_new wr #[.string xn, .int .i64 xk, .int .i64 xi, .int .i64 xj, .string xs] 62)
        have HX := Lib.hid hx
        obtain ⟨r1, h1⟩ : ∃ r, oneB (xn, xk, xi, xj, xs) = r := ⟨_, rfl⟩
        have E1 := Lib.hid h1
        rw [h1] at C
        clear hx px hsz h1
        simp only at p0 p1 p2 p3 p4
        go_wp2_with fail
        refine C.out.mono ?_
        rintro e5 w6 ⟨rfl, hb5⟩
        have BN := Lib.hid (B4.out.trans (hb5.mono B4.out.size))
        have b0 := cell_regrown (show w6.cell? ⟨wr.heap.size, 0, none⟩ = some (.string xn) from (X4.out.on hb5).cell 0)
        clear hb5 C B4 ix p0 p1 p2 p3 p4 X4
        cases r1
        · have R := Lib.hid (show rightP l = false from rightP_not l k hlt (by simp [goodP, HX.out, E1.out]))
          go_wp2
          go_ret
          exact ⟨ret_bool R.out.symm, BN.out⟩
        · cases k with
          | zero =>
            have G := Lib.hid (show goodP l 0 = true by simp [goodP, HX.out, E1.out])
            rw [show ((0 : Nat) : Int) = 0 from rfl]
            go_wp2
            refine wp_region_quiet_below (by kernel_rfl) (by kernel_rfl) ?_
            repeat (go_big_quiet_step (fail))
            refine wpQuiet_nil ?_
            intro _ hw'
            obtain ⟨⟨dq, osq⟩, hw''⟩ := hw'
            subst hw''
            have BZ := Lib.hid (BN.out.trans ((below_regrown w6 dq osq).mono BN.out.size))
            clear b0
            go_wp2
            go_roundw
            case rel => exact ⟨0 + 1, by omega, by go_num, BZ.out, fun j hj => by
              rcases Nat.lt_or_ge j (0) with h3 | h3
              · exact AL.out j h3
              · obtain rfl : j = 0 := by omega
                exact G.out⟩
            case measure => simp [intOf]; omega
          | succ m =>
            obtain ⟨⟨yn, yt, yi, yj, ys⟩, hy⟩ : ∃ y, l[m]? = some y := ⟨_, List.getElem?_eq_getElem (by omega)⟩
            obtain ⟨q, iy, qx⟩ := elC HL.out rfl rfl hy
            have y0 := cell_regrown (qx _ BN.out).1
            have HY := Lib.hid hy
            obtain ⟨r3, h3⟩ : ∃ r, Op.bytesLess yn.toList xn.toList = r := ⟨_, rfl⟩
            have E3 := Lib.hid h3
            clear hy qx
            simp only at y0
            rw [show ((m + 1 : Nat) : Int) = (m : Int) + 1 from rfl]
            have e35 : IntKind.i64.wrap ((m : Int) + 1 - 1) = m := by rw [show (m : Int) + 1 - 1 = m by omega]; exact IntWalk.i64_in _ (by omega)
            have e36 : (m : Int) + 1 - 1 = m := by omega
            cases r3
            · have R := Lib.hid (show rightP l = false from rightP_not l (m + 1) hlt (by simp [goodP, HX.out, E1.out, HY.out, pairC, E3.out]))
              go_wp2
              refine wp_region_quiet_below (by kernel_rfl) (by kernel_rfl) ?_
              repeat (go_big_quiet_step (fail))
              refine wpQuiet_nil ?_
              intro _ hw'
              obtain ⟨⟨dq, osq⟩, hw''⟩ := hw'
              subst hw''
              have BZ := Lib.hid (BN.out.trans ((below_regrown w6 dq osq).mono BN.out.size))
              go_wp2
              go_ret
              exact ⟨ret_bool R.out.symm, BZ.out⟩
            · have G := Lib.hid (show goodP l (m + 1) = true by simp [goodP, HX.out, E1.out, HY.out, pairC, E3.out])
              go_wp2
              refine wp_region_quiet_below (by kernel_rfl) (by kernel_rfl) ?_
              repeat (go_big_quiet_step (fail))
              refine wpQuiet_nil ?_
              intro _ hw'
              obtain ⟨⟨dq, osq⟩, hw''⟩ := hw'
              subst hw''
              have BZ := Lib.hid (BN.out.trans ((below_regrown w6 dq osq).mono BN.out.size))
              clear iy y0 e35 e36 h3 b0
              go_wp2
              go_roundw
              case rel => exact ⟨m + 1 + 1, by omega, by go_num, BZ.out, fun j hj => by
                rcases Nat.lt_or_ge j (m + 1) with h3 | h3
                · exact AL.out j h3
                · obtain rfl : j = m + 1 := by omega
                  exact G.out⟩
              case measure => simp [intOf]; omega
      · obtain rfl : k = l.length := by omega
        have R := Lib.hid (show rightP l = true by rw [rightP_end l AL.out]; simp; omega)
        go_wp2
        go_ret
        exact ⟨ret_bool R.out.symm, HB.out⟩
  · have d0 : decide ((5 : Int) < (l.length : Int)) = true := by simp; omega
    have R := Lib.hid (show rightP l = false by simp [rightP, hfew])
    go_enter Tryz.func69, Tryz.ntmps69
    go_wp2
    go_ret
    exact ⟨ret_bool R.out.symm, Below.refl _ _⟩
end Go.Proofs.YtonoadjmglkhaaaGreat.Avp

namespace Go.Proofs.YtonoadjmglkhaaaGreat.Av
open Go.RowKit Go.Sort Go.Proofs.YtonoadjmglkhaaaGreat Go.Proofs.YtonoadjmglkhaaaGreat.Rw Go.Proofs.YtonoadjmglkhaaaGreat.Nm Go.Proofs.YtonoadjmglkhaaaGreat.Pr Go.Proofs.YtonoadjmglkhaaaGreat.Bk

theorem box_setCells {g : Nat} {t : TypeId} : ∀ (vs : List Value) (o : Nat) (w : World) (cur : Array Value), Box w g cur t → ∃ cur', Box (w.setCells g o vs) g cur' t ∧ cur'.size = cur.size ∧ cur'.toList.take o = cur.toList.take o
  | [], o, w, cur, h => ⟨cur, h, rfl, rfl⟩
  | v :: r, o, w, cur, h => by
    obtain ⟨cur', h1, h2, h3⟩ := box_setCells r (o + 1) (w.setCell ⟨g, o, none⟩ v) _ (box_set (k := o) h v)
    refine ⟨cur', h1, by rw [h2]; simp, ?_⟩
    have h4 := congrArg (List.take o) h3
    rw [List.take_take, List.take_take, Nat.min_eq_left (by omega)] at h4
    rw [h4, Array.toList_setIfInBounds, List.take_set_of_le (Nat.le_refl _)]
theorem but_setCells (g : Nat) : ∀ (vs : List Value) (o : Nat) (w : World), But g w (w.setCells g o vs)
  | [], _, _w => ⟨fun _ _ _ => rfl, Nat.le_refl _⟩
  | v :: r, o, w => (but_cell w g o v).trans (but_setCells g r (o + 1) _)
theorem below_setCells {B g : Nat} (hB : B ≤ g) : ∀ (vs : List Value) (o : Nat) (W w : World), Below B W w → Below B W (w.setCells g o vs)
  | [], _, _, _, h => h
  | v :: r, o, W, _w, h => below_setCells hB r (o + 1) W _ (h.setCell (p := ⟨g, o, none⟩) hB v)
/-- The end of a row of one's own is cleared: what is ahead stays. -/
theorem clear_own {α : Type} {E : Ek α} (K : E.Ok) (hz : ∀ v ∈ E.z.cells.toList, v.oneCell' = true) {W : World} {B g n cap i : Nat} {L : List α} (h : Own E W B (.slice (some ⟨g, 0, none⟩) n cap) L) (hi : i < n) (ty : TypeId) :
    ∃ W', (Builtin.clear_ #[E.ts] ty #[.slice (some ⟨g, i * E.n, none⟩) (n - i) (cap - i)]).run Tryz.prog W = .ok (.tuple #[]) W' ∧ Own E W' B (.slice (some ⟨g, 0, none⟩) i cap) (L.take i) ∧ But g W W' ∧ (∀ B' W0, B' ≤ g → Below B' W0 W → Below B' W0 W') := by
  have hln := own_row_len h
  rcases own_open h with ⟨h1, _⟩ | ⟨g', cap', cur, h1, h2, h3, h4, h5, h6, h7⟩
  · cases h1
  · obtain ⟨rfl, _, rfl⟩ : g = g' ∧ n = L.length ∧ cap = cap' := by simpa using h1
    have hzs : (Builtin.zeroCells E.z.cells (n - i)).toList.length = (n - i) * E.n := by simp [Builtin.zeroCells, K.zs]
    have h10 : i * E.n + (n - i) * E.n = n * E.n := by rw [← Nat.add_mul, Nat.add_sub_cancel' (Nat.le_of_lt hi)]
    have h11 : n * E.n ≤ cap * E.n := Nat.mul_le_mul_right _ (by omega)
    have hone : ∀ v ∈ (Builtin.zeroCells E.z.cells (n - i)).toList, v.oneCell' = true := by
      intro v hv
      simp only [Builtin.zeroCells, Array.toList_map, List.mem_map] at hv
      obtain ⟨j, _, rfl⟩ := hv
      have hp := K.pos
      have hlt : j % E.z.cells.size < E.z.cells.size := Nat.mod_lt _ (by rw [K.zs]; exact hp)
      refine hz _ ?_
      rw [getElem!_pos E.z.cells (j % E.z.cells.size) hlt, Array.mem_toList_iff]
      exact Array.getElem_mem hlt
    have hst := run_storeCells_cells (P := Tryz.prog) g (i * E.n) (Builtin.zeroCells E.z.cells (n - i)).toList 0 W (by
      intro j hj
      rw [hzs] at hj
      rw [Nat.add_zero, h3.cell]
      have : i * E.n + j < cur.size := by rw [h6]; omega
      simp [this]) (fun j _ => h3.fr _) hone
    rw [Nat.add_zero] at hst
    obtain ⟨ii, i1, i2, i3, i4⟩ := K.info
    obtain ⟨cur', c1, c2, c3⟩ := box_setCells (Builtin.zeroCells E.z.cells (n - i)).toList (i * E.n) W cur h3
    refine ⟨W.setCells g (i * E.n) (Builtin.zeroCells E.z.cells (n - i)).toList, ?_, ?_, but_setCells _ _ _ _, fun B' W0 hB hb => below_setCells hB _ _ _ _ hb⟩
    · obtain ⟨m, hm⟩ : ∃ m, n - i = m + 1 := ⟨n - i - 1, by omega⟩
      rw [hm] at hst ⊢
      have hv : ∀ w, (zeroValue E.t).run Tryz.prog w = .ok E.z w := fun w => by simp [go_sem, zeroValue, typeInfo, i1, i2]
      simp [Builtin.clear_, run_underlying K.hu, hv, hst]
    · refine own_shut K (by rw [List.length_take]; omega) h2 c1 (by omega) h5 (by rw [c2]; exact h6) ?_
      rw [c3]
      have h8 := congrArg (List.take (i * E.n)) h7
      rw [List.take_take, flat_take K, Nat.min_eq_left (by rw [← hln] at hi; exact Nat.mul_le_mul_right _ (Nat.le_of_lt hi))] at h8
      exact h8
theorem wpList_clear_run {P : Program} {ops : Array Oper} {rest : List Oper} {o : Oper} {a : Act} {Q : Exit → Act → World → Prop} {w w' : World} (hgd : o.guard = none) (s : Operand) (t : TypeId)
    (ho : o.op = .call { callee := .builtin .clear, args := #[s], argTypes := #[t] }) {v v' : Value} (hs : a.eval s = v) (hr : (Builtin.clear_ #[t] o.type #[v]).run P w = .ok v' w')
    (h : wpList P ops Q rest (a.put o.dst v') w') : wpList P ops Q (o :: rest) a w := by
  refine wpList_plain hgd fun K hK => ?_
  unfold Oper.wp execOp
  simp only [ho, resolve, invoke, builtin, Sem.run_bind, Sem.run_pure, Result.andThen_ok, List.map_toArray, List.map_cons, List.map_nil, hs, hr]
  exact hK _ _ h
/-- A list while DeleteFunc shifts it. -/
structure DelSt {α : Type} (keep : α → Bool) (l : List α) (i j : Nat) (L : List α) : Prop where
  len : L.length = l.length
  lt : i < j
  lo : L.take i = (l.take j).filter keep
  hi : L.drop j = l.drop j
theorem DelSt.at {α : Type} {keep : α → Bool} {l : List α} {i j : Nat} {L : List α} (h : DelSt keep l i j L) : L[j]? = l[j]? := by
  have := congrArg (fun m => m[0]?) h.hi
  simpa using this
theorem DelSt.skip {α : Type} {keep : α → Bool} {l : List α} {i j : Nat} {L : List α} {x : α} (h : DelSt keep l i j L) (hx : l[j]? = some x) (hk : keep x = false) : DelSt keep l i (j + 1) L where
  len := h.len
  lt := Nat.lt_succ_of_lt h.lt
  lo := by
    rw [h.lo, List.take_add_one, hx]
    simp [hk]
  hi := by
    have := congrArg (List.drop 1) h.hi
    simpa [List.drop_drop] using this
theorem DelSt.keep {α : Type} {keep : α → Bool} {l : List α} {i j : Nat} {L : List α} {x : α} (h : DelSt keep l i j L) (hx : l[j]? = some x) (hk : keep x = true) : DelSt keep l (i + 1) (j + 1) (L.set i x) where
  len := by rw [List.length_set]; exact h.len
  lt := by have := h.lt; omega
  lo := by
    have hj := (List.getElem?_eq_some_iff.1 hx).1
    have hl := h.lt
    have hL := h.len
    rw [List.take_add_one, List.take_set_of_le (Nat.le_refl _), h.lo, List.getElem?_set_self (by omega), List.take_add_one, hx]
    simp [hk]
  hi := by
    have := congrArg (List.drop 1) h.hi
    rw [List.drop_set_of_lt (by have := h.lt; omega)]
    simpa [List.drop_drop] using this
theorem filter_first {α : Type} {keep : α → Bool} {l : List α} {k : Nat} {x : α} (hx : l[k]? = some x) (hk : keep x = false) (hall : ∀ (j : Nat) (y : α), j < k → l[j]? = some y → keep y = true) : DelSt keep l k (k + 1) l where
  len := rfl
  lt := Nat.lt_succ_self _
  lo := by
    rw [List.take_add_one, hx, List.filter_append]
    have : (l.take k).filter keep = l.take k := by
      rw [List.filter_eq_self]
      intro y hy
      obtain ⟨j, hj⟩ := List.mem_iff_getElem?.1 hy
      have hj' := (List.getElem?_eq_some_iff.1 hj).1
      rw [List.length_take] at hj'
      rw [List.getElem?_take_of_lt (by omega)] at hj
      exact hall j y (by omega) hj
    rw [this]
    simp [hk]
  hi := rfl
theorem findI_neg {α : Type} {key : α → XID} {l : List α} {x : XID} (h : findI (l.map key) x = -1) : ∀ (j : Nat) (y : α), l[j]? = some y → key y ≠ x := by
  intro j y hj hy
  have h1 := findI_in (l.map key) x
  rw [h] at h1
  have : x ∈ l.map key := List.mem_map.2 ⟨y, List.mem_of_getElem? hj, hy⟩
  simp [this] at h1
theorem findI_get : ∀ {l : List XID} {x : XID} {k : Nat}, findI l x = k → l[k]? = some x ∧ ∀ (j : Nat) (y : XID), j < k → l[j]? = some y → y ≠ x
  | [], x, k, h => by simp [findI] at h <;> omega
  | a :: l, x, k, h => by
    unfold findI at h
    by_cases hax : a = x
    · rw [if_pos hax] at h
      obtain rfl : k = 0 := by omega
      exact ⟨by simpa using hax, fun j y hj => by omega⟩
    · rw [if_neg hax] at h
      by_cases h2 : findI l x = -1
      · rw [if_pos h2] at h; omega
      · rw [if_neg h2] at h
        cases k with
        | zero => have := findI_bd l x; omega
        | succ k =>
          obtain ⟨h3, h4⟩ := findI_get (l := l) (x := x) (k := k) (by omega)
          refine ⟨by simpa using h3, fun j y hj hy => ?_⟩
          cases j with
          | zero => obtain rfl : a = y := by simpa using hy
                    exact hax
          | succ j => exact h4 j y (by omega) (by simpa using hy)
end Go.Proofs.YtonoadjmglkhaaaGreat.Av

namespace Go.Proofs.YtonoadjmglkhaaaGreat.Av
open Go.RowKit Go.Sort Go.Proofs.YtonoadjmglkhaaaGreat Go.Proofs.YtonoadjmglkhaaaGreat.Rw Go.Proofs.YtonoadjmglkhaaaGreat.Nm Go.Proofs.YtonoadjmglkhaaaGreat.Pr Go.Proofs.YtonoadjmglkhaaaGreat.Bk

theorem stoD {w : World} {B g n cap k : Nat} {l : List XAd} (x : XAd) (h : Own ED w B (.slice (some ⟨g, 0, none⟩) n cap) l) (hk : k < l.length) :
    StoQ ED B g (.slice (some ⟨g, 0, none⟩) n cap) (l.set k x) w ((((w.setCell ⟨g, k * 4, none⟩ (.int .i64 x.1)).setCell ⟨g, k * 4 + 1, none⟩ (.int .i64 x.2.1)).setCell ⟨g, k * 4 + 2, none⟩ (slv x.2.2.1)).setCell ⟨g, k * 4 + 3, none⟩ (.int .i64 x.2.2.2)) := by
  have hln := own_row_len h
  subst hln
  have h : w.ownsRow B 42 4 (.slice (some ⟨g, 0, none⟩) l.length cap) l.length (flat ED l) := h
  have s1 := (h.stored (k * 4) (.int .i64 x.1)).1
  have s2 := (s1.stored (k * 4 + 1) (.int .i64 x.2.1)).1
  have s3 := (s2.stored (k * 4 + 2) (slv x.2.2.1)).1
  have s4 := (s3.stored (k * 4 + 3) (.int .i64 x.2.2.2)).1
  refine ⟨?_, ((((but_cell _ g _ _).trans (but_cell _ g _ _)).trans (but_cell _ g _ _)).trans (but_cell _ g _ _)), fun B' W hB hb => ((((hb.setCell (p := ⟨g, _, none⟩) hB _).setCell (p := ⟨g, _, none⟩) hB _).setCell (p := ⟨g, _, none⟩) hB _).setCell (p := ⟨g, _, none⟩) hB _)⟩
  have e := flatD_set l k x hk
  show World.ownsRow _ B 42 4 _ (l.set k x).length (flat ED (l.set k x))
  rw [e, List.length_set]
  exact s4
set_option maxRecDepth 100000 in
theorem cloD_any (x : XAd) (b2 : Nat) (c d : Int) (r : Bool) (hr : decide (keyD x = (c, d)) = r) (w : World) (h : Box w b2 #[.int .i64 c, .int .i64 d] 37) : Calls Tryz.prog 38 #[valD x, .pointer (some ⟨b2, 0, none⟩)] w fun e w' => e = .returned (.bool r) ∧ Below w.heap.size w w' := by
  obtain ⟨y1, y2, ⟨yo, yn, yc⟩, y4⟩ := x
  have n0 := newB w (.cells #[.int .i64 y1, .int .i64 y2, .slice yo yn yc, .int .i64 y4] 42)
  have hx := box_new w #[.int .i64 y1, .int .i64 y2, .slice yo yn yc, .int .i64 y4] 42
  have x0 := hx.cell 0
  have x1 := hx.cell 1
  have z0 := (h.on n0).cell 0
  have z1 := (h.on n0).cell 1
  simp only [List.getElem?_toArray, List.getElem?_cons_zero, List.getElem?_cons_succ] at x0 x1 z0 z1
  have he := eqId y1 y2 c d r (by
    rw [← hr]
    by_cases h1 : y1 = c <;> by_cases h2 : y2 = d <;> simp [h1, h2])
  have N0 := Lib.hid n0
  clear n0 hx h hr
  go_enter Tryz.func38, Tryz.ntmps38
  go_wp2
  go_ret
  exact ⟨rfl, N0.out⟩
set_option maxRecDepth 100000 in
set_option maxHeartbeats 8000000 in
theorem ixfD_any (v : Sl) (l : List XAd) (b2 : Nat) (c d : Int) (w : World) (hs : Row ED w (slv v) l) (hb2 : Box w b2 #[.int .i64 c, .int .i64 d] 37) :
    Calls Tryz.prog 89 #[slv v, .func (.func 38) #[] #[.pointer (some ⟨b2, 0, none⟩)]] w fun e w' => e = .returned (.int .i64 (findI (l.map keyD) (c, d))) ∧ Below w.heap.size w w' := by
  obtain ⟨so, sn, sc⟩ := v
  obtain ⟨ao, ac, hv⟩ := hs.len
  have hv : Value.slice so sn sc = .slice ao l.length ac := hv
  obtain ⟨rfl, rfl, rfl⟩ : so = ao ∧ sn = l.length ∧ sc = ac := by simpa using hv
  have HS := Lib.hid hs
  have X2 := Lib.hid hb2
  have lm := hs.most
  unfold maxLen at lm
  obtain ⟨n, hn⟩ : ∃ n, n = l.length := ⟨_, rfl⟩
  rw [← hn] at HS lm ⊢
  have HN := Lib.hid hn.symm
  clear hb2 hs hv hn
  go_enter Tryz.func89, Tryz.ntmps89
  go_wp2
  go_loopw [8] (fun i wr => ∃ k : Nat, k ≤ n ∧ i = .int .i64 k ∧ Below w.heap.size w wr ∧ ∀ (j : Nat) (y : XAd), j < k → l[j]? = some y → keyD y ≠ (c, d)) (fun i _ => n - (intOf i).toNat)
  case atStart => exact ⟨0, Nat.zero_le _, rfl, Below.refl _ _, fun j y h => by omega⟩
  case round =>
    obtain ⟨k, hk, rfl, hbe, hall⟩ := hrel
    have BE := Lib.hid hbe
    have AL := Lib.hid hall
    clear hbe hall
    by_cases hlt : k < n
    · obtain ⟨y, hy⟩ : ∃ y, l[k]? = some y := ⟨_, List.getElem?_eq_getElem (by rw [HN.out]; exact hlt)⟩
      obtain ⟨p, ix, px⟩ := elD HS.out rfl HN.out hy
      obtain ⟨p0, p1, p2, p3⟩ := px wr BE.out
      obtain ⟨r, hr⟩ : ∃ r, decide (keyD y = (c, d)) = r := ⟨_, rfl⟩
      have CL := Lib.hid (cloD_any y b2 c d r hr wr (X2.out.on BE.out))
      have HY := Lib.hid hy
      have HR := Lib.hid hr
      obtain ⟨y1, y2, ⟨yo, yn, yc⟩, y4⟩ := y
      simp only at p0 p1 p2 p3
      have hw3 : IntKind.i64.wrap ((k : Int) + 1) = (k : Int) + 1 := IntWalk.i64_in _ (by omega)
      clear px hy hr
      go_wp2_with fail
      refine CL.out.mono ?_
      rintro e w1 ⟨rfl, hb⟩
      have B1 := Lib.hid (BE.out.trans (hb.mono BE.out.size))
      clear hb CL ix p0 p1 p2 p3
      cases r
      · go_wp2
        go_roundw
        case rel => exact ⟨k + 1, by omega, by go_num, B1.out, fun j y' hj h1 => by
          rcases Nat.lt_or_ge j k with h3 | h3
          · exact AL.out j y' h3 h1
          · obtain rfl : j = k := by omega
            have e1 := HY.out
            rw [h1] at e1
            rw [Option.some.inj e1]
            exact of_decide_eq_false HR.out⟩
        case measure => simp [intOf]; omega
      · go_wp2
        go_ret
        exact ⟨by rw [findI_at (l.map keyD) k (c, d) (by rw [List.getElem?_map, HY.out]; exact congrArg some (of_decide_eq_true HR.out)) (fun j z hj hz => by
          rw [List.getElem?_map] at hz
          cases hz2 : l[j]? with
          | none => rw [hz2] at hz; cases hz
          | some u => rw [hz2] at hz; rw [← Option.some.inj hz]; exact AL.out j u hj hz2)]; rfl, B1.out⟩
    · obtain rfl : k = n := by omega
      go_wp2
      go_ret
      exact ⟨by rw [findI_none (l.map keyD) (c, d) (fun j z hz => by
          rw [List.getElem?_map] at hz
          cases hz2 : l[j]? with
          | none => rw [hz2] at hz; cases hz
          | some u => rw [hz2] at hz; rw [← Option.some.inj hz]; exact AL.out j u (by rw [← HN.out]; exact (List.getElem?_eq_some_iff.1 hz2).1) hz2)]; rfl, BE.out⟩
abbrev keepD (c d : Int) (x : XAd) : Bool := decide (keyD x ≠ (c, d))
set_option maxRecDepth 100000 in
set_option maxHeartbeats 16000000 in
theorem delD_any (B : Nat) (v : Sl) (l : List XAd) (b2 : Nat) (c d : Int) (w : World) (ho : Own ED w B (slv v) l) (hb2 : Box w b2 #[.int .i64 c, .int .i64 d] 37) (hB : B ≤ w.heap.size) :
    Calls Tryz.prog 37 #[slv v, .func (.func 38) #[] #[.pointer (some ⟨b2, 0, none⟩)]] w fun e w' => (∃ v' : Sl, e = .returned (slv v') ∧ Own ED w' B (slv v') (l.filter (keepD c d))) ∧ Below B w w' ∧ Off (slv v).ownBlock w w' := by
  obtain ⟨so, sn, sc⟩ := v
  obtain ⟨ao, ac, hv⟩ := (Row.of_own ho).len
  have hv : Value.slice so sn sc = .slice ao l.length ac := hv
  obtain ⟨rfl, rfl, rfl⟩ : so = ao ∧ sn = l.length ∧ sc = ac := by simpa using hv
  have IX := Lib.hid (ixfD_any (so, l.length, sc) l b2 c d w (Row.of_own ho) hb2)
  have HO := Lib.hid ho
  have X2 := Lib.hid hb2
  have lm := (Row.of_own ho).most
  unfold maxLen at lm
  have BZ := Lib.hid (show w.heap.size ≤ w.heap.size from Nat.le_refl _)
  obtain ⟨n, hn⟩ : ∃ n, n = l.length := ⟨_, rfl⟩
  rw [← hn] at HO lm IX ⊢
  have HN := Lib.hid hn.symm
  obtain ⟨q, hq⟩ : ∃ q, findI (l.map keyD) (c, d) = q := ⟨_, rfl⟩
  rw [hq] at IX
  have HQ := Lib.hid hq
  have HB := Lib.hid hB
  have LB := Lib.hid (show ∀ g, (slv (so, n, sc)).ownBlock = some g → B ≤ g from fun g hg => (HO.out.lt g hg).1)
  clear hb2 ho hv hn hB
  by_cases hneg : q = -1
  · subst hneg
    go_enter Tryz.func37, Tryz.ntmps37
    go_wp2_with fail
    refine IX.out.mono ?_
    rintro e w1 ⟨rfl, hb⟩
    have FE := Lib.hid (show l.filter (keepD c d) = l from by
      rw [List.filter_eq_self]
      intro y hy
      obtain ⟨j, hj⟩ := List.mem_iff_getElem?.1 hy
      exact decide_eq_true (findI_neg hq j y hj))
    have BH := Lib.hid hb
    clear hb hq
    go_wp2
    go_ret
    exact ⟨⟨(so, n, sc), rfl, by rw [FE.out]; exact Bk.own_on HO.out BH.out⟩, BH.out.mono HB.out, fun j hj _ => BH.out.block j hj, BH.out.size⟩
  · obtain ⟨k, rfl⟩ : ∃ k : Nat, q = k := ⟨q.toNat, by have := findI_bd (l.map keyD) (c, d); omega⟩
    obtain ⟨g1, g2⟩ := findI_get hq
    obtain ⟨x, hx, hxk⟩ : ∃ x, l[k]? = some x ∧ keyD x = (c, d) := by
      rw [List.getElem?_map] at g1
      cases hz : l[k]? with
      | none => rw [hz] at g1; cases g1
      | some x => rw [hz] at g1; exact ⟨x, rfl, Option.some.inj g1⟩
    have ST0 := Lib.hid (filter_first (keep := keepD c d) hx (decide_eq_false (by simp [hxk])) (fun j y hj hy => decide_eq_true (g2 j (keyD y) hj (by rw [List.getElem?_map, hy]; rfl))))
    have hkl : k < n := by rw [← HN.out]; exact (List.getElem?_eq_some_iff.1 hx).1
    obtain ⟨g, rfl, hBg⟩ : ∃ g, so = some ⟨g, 0, none⟩ ∧ B ≤ g := own_some HO.out (show 0 < n by omega)
    have BG := Lib.hid hBg
    have TG := Lib.hid (tag_own HO.out)
    have hcap : n ≤ sc := by
      rcases own_open HO.out with ⟨h1, _⟩ | ⟨g', c', cur, h1, h2, h3, h4, h5, h6, h7⟩
      · cases h1
      · have e1 : sc = c' := by simpa using congrArg (fun v => match v with | Value.slice _ _ c => c | _ => 0) h1
        have := HN.out
        omega
    have hw0 : IntKind.i64.wrap ((k : Int) + 1) = (k : Int) + 1 := IntWalk.i64_in _ (by omega)
    have hk1 : ((k : Int) == -1) = false := by rw [beq_eq_false_iff_ne]; omega
    clear hq g1 g2 hx hxk x hneg hBg LB
    go_enter Tryz.func37, Tryz.ntmps37
    go_wp2_with fail
    refine IX.out.mono ?_
    rintro e w1 ⟨rfl, hb⟩
    have O1 := Lib.hid (Bk.own_on HO.out hb)
    have B1 := Lib.hid (hb.mono HB.out)
    have F1 := Lib.hid (show Off (some g) w w1 from ⟨fun j hj _ => hb.block j hj, hb.size⟩)
    clear hb IX
    go_wp2
    clear hw0 hk1
    go_loopw [5, 6] (fun s5 s6 wr => ∃ (i j : Nat) (L : List XAd), s5 = .int .i64 i ∧ s6 = .int .i64 j ∧ j ≤ n ∧ DelSt (keepD c d) l i j L ∧ Own ED wr B (.slice (some ⟨g, 0, none⟩) n sc) L ∧ Below B w wr ∧ Off (some g) w wr) (fun _ s6 _ => n - (intOf s6).toNat)
    case atStart => exact ⟨k, k + 1, l, rfl, by go_num, by omega, ST0.out, O1.out, B1.out, F1.out⟩
    case round =>
      obtain ⟨i, j, L, rfl, rfl, hj, hst, how, hbe, hof⟩ := hrel
      have ST := Lib.hid hst
      have OW := Lib.hid how
      have BE := Lib.hid hbe
      have OF := Lib.hid hof
      have hij := hst.lt
      have LN := Lib.hid (show L.length = n from hst.len.trans HN.out)
      clear hst how hbe hof O1 B1 F1 ST0
      by_cases hlt : j < n
      · obtain ⟨y, hy⟩ : ∃ y, l[j]? = some y := ⟨_, List.getElem?_eq_getElem (by rw [HN.out]; exact hlt)⟩
        have hyL : L[j]? = some y := by rw [ST.out.at, hy]
        obtain ⟨p, ix, px⟩ := elD (Row.of_own OW.out) rfl LN.out hyL
        obtain ⟨p0, p1, p2, p3⟩ := px wr (Below.refl _ _)
        obtain ⟨r, hr⟩ : ∃ r, decide (keyD y = (c, d)) = r := ⟨_, rfl⟩
        have HY := Lib.hid hy
        have hw3 : IntKind.i64.wrap ((j : Int) + 1) = (j : Int) + 1 := IntWalk.i64_in _ (by omega)
        have hw5 : IntKind.i64.wrap ((i : Int) + 1) = (i : Int) + 1 := IntWalk.i64_in _ (by omega)
        obtain ⟨z, hz⟩ : ∃ z, L[i]? = some z := ⟨_, List.getElem?_eq_getElem (by rw [LN.out]; omega)⟩
        have HZ := Lib.hid hz
        have X2w := OF.out.box X2.out TG.out (by decide)
        have CLO := cloD_any y b2 c d r hr
        have KP := Lib.hid (show keepD c d y = !r from by rw [← hr]; simp [keepD])
        obtain ⟨y1, y2, ⟨yo, yn, yc⟩, y4⟩ := y
        simp only at p0 p1 p2 p3
        have NB := Lib.hid (newB wr (.cells #[.int .i64 y1, .int .i64 y2, .slice yo yn yc, .int .i64 y4] 42))
        have CL := Lib.hid (CLO _ (X2w.on NB.out))
        clear hy hyL px hr hz CLO X2w
        go_wp2_with fail
        refine CL.out.mono ?_
        rintro e w2 ⟨rfl, hb⟩
        have BB := Lib.hid (NB.out.trans (hb.mono NB.out.size))
        have Y7 := (box_new wr #[.int .i64 y1, .int .i64 y2, .slice yo yn yc, .int .i64 y4] 42).on hb
        have q0 := Y7.cell 0
        have q1 := Y7.cell 1
        have q2 := Y7.cell 2
        have q3 := Y7.cell 3
        simp only [List.getElem?_toArray, List.getElem?_cons_zero, List.getElem?_cons_succ] at q0 q1 q2 q3
        have O2 := Lib.hid (Bk.own_on OW.out BB.out)
        clear hb CL ix p0 p1 p2 p3 Y7
        cases r
        · have ix := index_own okD g i n sc (by omega)
          have ix : ∀ w, (Instr.indexAt 24 (.slice (some ⟨g, 0, none⟩) n sc) (.int .i64 i)).run Tryz.prog w = .ok (.pointer (some ⟨g, i * 4, none⟩)) w := ix
          have ca := own_row_at okD O2.out HZ.out w2 (Below.refl _ _)
          have ce0 := ca 0 _ rfl
          have ce1 := ca 1 _ rfl
          have ce2 := ca 2 _ rfl
          have ce3 := ca 3 _ rfl
          simp [Addr.add, ED] at ce0 ce1 ce2 ce3
          obtain ⟨cur, hbx⟩ := own_tag O2.out
          have f := fun j => hbx.fr j
          have gl := hbx.lt
          have SQ : StoQ ED B g (.slice (some ⟨g, 0, none⟩) n sc) (L.set i (y1, y2, (yo, yn, yc), y4)) w2 ((((w2.setCell ⟨g, i * 4, none⟩ (.int .i64 y1)).setCell ⟨g, i * 4 + 1, none⟩ (.int .i64 y2)).setCell ⟨g, i * 4 + 2, none⟩ (.slice yo yn yc)).setCell ⟨g, i * 4 + 3, none⟩ (.int .i64 y4)) := stoD (y1, y2, (yo, yn, yc), y4) O2.out (by rw [LN.out]; omega)
          have SQ := Lib.hid SQ
          clear hbx ca
          go_upto_region 10 with fail
          generalize ((((w2.setCell ⟨g, i * 4, none⟩ (.int .i64 y1)).setCell ⟨g, i * 4 + 1, none⟩ (.int .i64 y2)).setCell ⟨g, i * 4 + 2, none⟩ (.slice yo yn yc)).setCell ⟨g, i * 4 + 3, none⟩ (.int .i64 y4)) = w3 at *
          clear f gl ce0 ce1 ce2 ce3 ix
          go_wp2
          go_roundw
          case rel => exact ⟨i + 1, j + 1, L.set i (y1, y2, (yo, yn, yc), y4), by go_num, by go_num, by omega, ST.out.keep HY.out KP.out, SQ.out.1, SQ.out.2.2 B w BG.out (BE.out.trans (BB.out.mono (Nat.le_trans HB.out OF.out.2))), ⟨fun q hq hne => (SQ.out.2.1.1 q (Nat.lt_of_lt_of_le (Nat.lt_of_lt_of_le hq OF.out.2) BB.out.size) (fun e => hne (by rw [e]))).trans ((BB.out.block q (Nat.lt_of_lt_of_le hq OF.out.2)).trans (OF.out.1 q hq hne)), Nat.le_trans OF.out.2 (Nat.le_trans BB.out.size SQ.out.2.1.2)⟩⟩
          case measure => simp [intOf]; omega
        · go_wp2
          go_roundw
          case rel => exact ⟨i, j + 1, L, rfl, by go_num, by omega, ST.out.skip HY.out KP.out, O2.out, BE.out.trans (BB.out.mono (Nat.le_trans HB.out OF.out.2)), ⟨fun q hq hne => (BB.out.block q (Nat.lt_of_lt_of_le hq OF.out.2)).trans (OF.out.1 q hq hne), Nat.le_trans OF.out.2 BB.out.size⟩⟩
          case measure => simp [intOf]; omega
      · obtain rfl : n = j := by omega
        obtain ⟨W', hr, h1, h2, h3⟩ := clear_own okD (by decide) OW.out hij (ty := 0)
        have sh := cut_hi (E := ED) okD g i n sc (by omega) (by omega)
        have sl := slice_lo (E := ED) okD ⟨g, 0, none⟩ i n sc (by omega)
        have sh : ∀ w, (Instr.sliceAt 24 (.slice (some ⟨g, 0, none⟩) n sc) (some (.int .i64 i)) none none).run Tryz.prog w = .ok (.slice (some ⟨g, i * 4, none⟩) (n - i) (sc - i)) w := sh
        have sl : ∀ w, (Instr.sliceAt 24 (.slice (some ⟨g, 0, none⟩) n sc) none (some (.int .i64 i)) none).run Tryz.prog w = .ok (.slice (some ⟨g, 0, none⟩) i sc) w := sl
        have hr : (Builtin.clear_ #[24] 0 #[.slice (some ⟨g, i * 4, none⟩) (n - i) (sc - i)]).run Tryz.prog wr = .ok (.tuple #[]) W' := hr
        have Q := Lib.hid (show (∃ v' : Sl, Ending.returned (.slice (some ⟨g, 0, none⟩) i sc) = .returned (slv v') ∧ Own ED W' B (slv v') (l.filter (keepD c d))) ∧ Below B w W' ∧ Off (slv (some ⟨g, 0, none⟩, n, sc)).ownBlock w W' from ⟨⟨(some ⟨g, 0, none⟩, i, sc), rfl, by
          have e1 : l.take n = l := List.take_of_length_le (by rw [HN.out]; exact Nat.le_refl _)
          have e2 := ST.out.lo
          rw [e1] at e2
          rw [← e2]
          exact h1⟩, h3 B w BG.out BE.out, ⟨fun q hq hne => (h2.1 q (Nat.lt_of_lt_of_le hq OF.out.2) (fun e => hne (by rw [e]; rfl))).trans (OF.out.1 q hq hne), Nat.le_trans OF.out.2 h2.2⟩⟩)
        clear h1 h2 h3 hlt
        go_wp2_with (first | (at_builtin; refine wpList_clear_run rfl _ _ 24 rfl rfl rfl hr ?_) | fail)
        go_ret
        exact Q.out
end Go.Proofs.YtonoadjmglkhaaaGreat.Av
