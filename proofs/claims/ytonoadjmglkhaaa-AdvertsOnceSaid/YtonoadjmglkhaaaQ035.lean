/-
  RightOne and Right of package pred, on any list. Condition: texts below a machine's length.
  rightAdvert of package adverts. Conditions: the neighbours and what was seen rise; at most 900 of each.
  rightEntry of package adverts. Conditions: the neighbours and the advertisements rise; at most 900 of each.
-/
import Derived.Test.YtonoadjmglkhaaaQ033
import Derived.Test.YtonoadjmglkhaaaQ032
import Derived.Test.YtonoadjmglkhaaaQ034
import Derived.Test.YtonoadjmglkhaaaQ030
import Derived.Test.YtonoadjmglkhaaaQ010
import Derived.Test.YtonoadjmglkhaaaQ029
import Derived.Test.YtonoadjmglkhaaaQ020
import Derived.Test.YtonoadjmglkhaaaQ021
namespace Go.Proofs.Ytonoadjmglkhaaa.Avp
open Go.RowKit Go.Sort Go.Proofs.Ytonoadjmglkhaaa Go.Proofs.Ytonoadjmglkhaaa.Rw Go.Proofs.Ytonoadjmglkhaaa.Nm Go.Proofs.Ytonoadjmglkhaaa.At Go.Proofs.Ytonoadjmglkhaaa.Pr Go.Proofs.Ytonoadjmglkhaaa.Wr Go.Proofs.Ytonoadjmglkhaaa.Va

theorem new_below (w : World) (o : Obj) : Below w.heap.size w (w.alloc o) := (Below.refl _ _).alloc (Nat.le_refl _) _
theorem noText_is (t : ByteArray) : t.toList.isEmpty = decide (t.size = 0) := by
  rw [ByteArray.toList_eq]
  obtain ⟨⟨l⟩⟩ := t
  cases l <;> simp [ByteArray.size]
theorem name_at (s : ByteArray) (w : World) (hs : s.size ≤ maxLen) :
    Calls Try.prog 84 #[.string s] w fun e w' => e = .returned (.bool (nameB s)) ∧ w = w' := Pr.name_same s w hs

set_option maxRecDepth 100000 in
set_option maxHeartbeats 4000000 in
theorem pone_range (s t : ByteArray) (lo hi : Int) (w : World) (hs : s.size ≤ maxLen) :
    Calls Try.prog 66 #[cv (s, 1, lo, hi, t)] w fun e w' => e = .returned (.bool (oneB (s, 1, lo, hi, t))) ∧ Below w.heap.size w w' := by
  have B := Lib.hid (new_below w (.cells #[.string s, .int .i64 1, .int .i64 lo, .int .i64 hi, .string t] 86))
  have NM := Lib.hid (fun w => name_at s w hs)
  have R := Lib.hid (show oneB (s, 1, lo, hi, t) = (At.nameB s && (decide (lo ≤ hi) && t.toList.isEmpty)) by simp [oneB, noText_is, Bool.and_comm])
  generalize At.nameB s = b at *
  cases b
  · go_enter Try.func66, Try.ntmps66
    go_wp2_with fail
    refine (NM.out _).mono ?_
    rintro e w' ⟨rfl, rfl⟩
    go_wp2
    go_ret
    exact ⟨by rw [R.out]; rfl, B.out⟩
  obtain ⟨b1, h1⟩ : ∃ b, decide (lo ≤ hi) = b := ⟨_, rfl⟩
  rw [h1] at R
  cases b1
  · go_enter Try.func66, Try.ntmps66
    go_wp2_with fail
    refine (NM.out _).mono ?_
    rintro e w' ⟨rfl, rfl⟩
    go_wp2
    go_ret
    exact ⟨by rw [R.out]; rfl, B.out⟩
  by_cases he : t.toList = []
  · have R2 := Lib.hid (show oneB (s, 1, lo, hi, t) = true by rw [R.out, he]; rfl)
    go_enter Try.func66, Try.ntmps66
    go_wp2_with fail
    refine (NM.out _).mono ?_
    rintro e w' ⟨rfl, rfl⟩
    go_wp2
    go_ret
    exact ⟨by rw [R2.out]; rfl, B.out⟩
  · have he2 : t.toList.isEmpty = false := by simpa using he
    have R2 := Lib.hid (show oneB (s, 1, lo, hi, t) = false by rw [R.out, he2]; rfl)
    go_enter Try.func66, Try.ntmps66
    go_wp2_with fail
    refine (NM.out _).mono ?_
    rintro e w' ⟨rfl, rfl⟩
    go_wp2
    go_ret
    exact ⟨by rw [R2.out]; rfl, B.out⟩
theorem oneB_text2 (s t : ByteArray) (lo hi : Int) : oneB (s, 2, lo, hi, t) = (At.nameB s && ((lo == 0) && ((hi == 0) && decide ((t.size : Int) ≤ 12)))) := by
  have e : ∀ x : Int, decide (x = 0) = (x == 0) := fun x => by rw [Bool.eq_iff_iff]; simp
  have e3 : decide ((t.size : Int) ≤ 12) = decide (t.size ≤ 12) := by rw [Bool.eq_iff_iff]; simp; omega
  unfold oneB
  simp [e, e3]
theorem oneB_text3 (s t : ByteArray) (lo hi : Int) : oneB (s, 3, lo, hi, t) = (At.nameB s && (!decide ((12 : Int) ≤ (t.size : Int)) && ((lo == 0) && (hi == 0)))) := by
  have e : ∀ x : Int, decide (x = 0) = (x == 0) := fun x => by rw [Bool.eq_iff_iff]; simp
  unfold oneB
  simp only [e]
  rw [Bool.eq_iff_iff]
  simp
  omega
set_option maxRecDepth 100000 in
set_option maxHeartbeats 8000000 in
theorem pone_text (s t : ByteArray) (lo hi : Int) (w : World) (hs : s.size ≤ maxLen) (_ht : t.size ≤ maxLen) :
    Calls Try.prog 66 #[cv (s, 2, lo, hi, t)] w fun e w' => e = .returned (.bool (oneB (s, 2, lo, hi, t))) ∧ Below w.heap.size w w' := by
  have B := Lib.hid (new_below w (.cells #[.string s, .int .i64 2, .int .i64 lo, .int .i64 hi, .string t] 86))
  have NM := Lib.hid (fun w => name_at s w hs)
  have R := Lib.hid (oneB_text2 s t lo hi)
  generalize At.nameB s = b at *
  obtain ⟨b1, h1⟩ : ∃ x, (lo == 0) = x := ⟨_, rfl⟩
  obtain ⟨b2, h2⟩ : ∃ x, (hi == 0) = x := ⟨_, rfl⟩
  obtain ⟨b3, h3⟩ : ∃ x, decide ((t.size : Int) ≤ 12) = x := ⟨_, rfl⟩
  rw [h1, h2, h3] at R
  cases b <;> cases b1 <;> cases b2 <;> cases b3 <;> (
    go_enter Try.func66, Try.ntmps66
    go_wp2_with fail
    refine (NM.out _).mono ?_
    rintro e w' ⟨rfl, rfl⟩
    go_wp2
    go_ret
    exact ⟨by rw [R.out]; rfl, B.out⟩)
set_option maxRecDepth 100000 in
set_option maxHeartbeats 8000000 in
theorem pone_prefix (s t : ByteArray) (lo hi : Int) (w : World) (hs : s.size ≤ maxLen) (_ht : t.size ≤ maxLen) :
    Calls Try.prog 66 #[cv (s, 3, lo, hi, t)] w fun e w' => e = .returned (.bool (oneB (s, 3, lo, hi, t))) ∧ Below w.heap.size w w' := by
  have B := Lib.hid (new_below w (.cells #[.string s, .int .i64 3, .int .i64 lo, .int .i64 hi, .string t] 86))
  have NM := Lib.hid (fun w => name_at s w hs)
  have R := Lib.hid (oneB_text3 s t lo hi)
  have h4 : decide ((12 : Int) ≤ (t.size : Int)) = false → decide ((t.size : Int) ≤ 12) = true := by
    intro h
    simp at h ⊢
    omega
  generalize At.nameB s = b at *
  obtain ⟨b1, h1⟩ : ∃ x, (lo == 0) = x := ⟨_, rfl⟩
  obtain ⟨b2, h2⟩ : ∃ x, (hi == 0) = x := ⟨_, rfl⟩
  obtain ⟨b3, h3⟩ : ∃ x, decide ((12 : Int) ≤ (t.size : Int)) = x := ⟨_, rfl⟩
  rw [h1, h2, h3] at R
  cases b3
  · have h5 := h4 h3
    clear h4
    cases b <;> cases b1 <;> cases b2 <;> (
      go_enter Try.func66, Try.ntmps66
      go_wp2_with fail
      refine (NM.out _).mono ?_
      rintro e w' ⟨rfl, rfl⟩
      go_wp2
      go_ret
      exact ⟨by rw [R.out]; rfl, B.out⟩)
  · clear h4
    cases b <;> (
      go_enter Try.func66, Try.ntmps66
      go_wp2_with fail
      refine (NM.out _).mono ?_
      rintro e w' ⟨rfl, rfl⟩
      go_wp2
      go_ret
      exact ⟨by rw [R.out]; rfl, B.out⟩)
set_option maxRecDepth 100000 in
set_option maxHeartbeats 8000000 in
theorem pone_other (s t : ByteArray) (k lo hi : Int) (w : World) (hs : s.size ≤ maxLen) (h1 : k ≠ 1) (h2 : k ≠ 2) (h3 : k ≠ 3) :
    Calls Try.prog 66 #[cv (s, k, lo, hi, t)] w fun e w' => e = .returned (.bool (oneB (s, k, lo, hi, t))) ∧ Below w.heap.size w w' := by
  have B := Lib.hid (new_below w (.cells #[.string s, .int .i64 k, .int .i64 lo, .int .i64 hi, .string t] 86))
  have NM := Lib.hid (fun w => name_at s w hs)
  have R := Lib.hid (show oneB (s, k, lo, hi, t) = false by simp [oneB, h1, h2, h3])
  have e1 : (k == 1) = false := by simpa using h1
  have e2 : (k == 2) = false := by simpa using h2
  have e3 : (k == 3) = false := by simpa using h3
  clear h1 h2 h3
  generalize At.nameB s = b at *
  cases b <;> (
    go_enter Try.func66, Try.ntmps66
    go_wp2_with fail
    refine (NM.out _).mono ?_
    rintro e w' ⟨rfl, rfl⟩
    go_wp2
    go_ret
    exact ⟨by rw [R.out]; rfl, B.out⟩)
theorem pone_any (c : C5) (w : World) (hs : c.1.size ≤ maxLen) (ht : c.2.2.2.2.size ≤ maxLen) :
    Calls Try.prog 66 #[cv c] w fun e w' => e = .returned (.bool (oneB c)) ∧ Below w.heap.size w w' := by
  obtain ⟨s, k, lo, hi, t⟩ := c
  by_cases h1 : k = 1
  · subst h1; exact pone_range s t lo hi w hs
  by_cases h2 : k = 2
  · subst h2; exact pone_text s t lo hi w hs ht
  by_cases h3 : k = 3
  · subst h3; exact pone_prefix s t lo hi w hs ht
  exact pone_other s t k lo hi w hs h1 h2 h3
set_option maxRecDepth 100000 in
set_option maxHeartbeats 8000000 in
theorem pright_any (lv : Value) (l : List C5) (w : World) (hl : RowC w lv l) (hs : ∀ x ∈ l, x.1.size ≤ maxLen ∧ x.2.2.2.2.size ≤ maxLen) :
    Calls Try.prog 45 #[lv] w fun e w' => e = .returned (.bool (rightP l)) ∧ Below w.heap.size w w' := by
  have HL := Lib.hid hl
  have HS := Lib.hid hs
  have HM := Lib.hid hl.most
  obtain ⟨ao, ac, rfl⟩ := hl.len
  clear hl hs
  by_cases hfew : l.length ≤ 5
  · have d0 : decide ((5 : Int) < (l.length : Int)) = false := by simp; omega
    go_enter Try.func45, Try.ntmps45
    go_wp2
    go_loopw [10] (fun i wr => ∃ k : Nat, k ≤ l.length ∧ i = .int .i64 k ∧ Below w.heap.size w wr ∧ ∀ j, j < k → goodP l j = true) (fun i _ => l.length - (intOf i).toNat)
    case atStart => exact ⟨0, Nat.zero_le _, rfl, Below.refl _ _, fun j h => by omega⟩
    case round =>
      obtain ⟨k, hk, rfl, hb, hall⟩ := hrel
      have HB := Lib.hid hb
      have AL := Lib.hid hall
      clear hb hall d0
      by_cases hlt : k < l.length
      · obtain ⟨⟨xn, xk, xi, xj, xs⟩, hx⟩ : ∃ x, l[k]? = some x := ⟨_, List.getElem?_eq_getElem hlt⟩
        obtain ⟨p, ix, px⟩ := elC HL.out rfl rfl hx
        obtain ⟨p0, p1, p2, p3, p4⟩ := px _ HB.out
        have hsz := HS.out _ (List.mem_of_getElem? hx)
        have C := Lib.hid (pone_any (xn, xk, xi, xj, xs) (wr.alloc (.cells #[.string xn, .int .i64 xk, .int .i64 xi, .int .i64 xj, .string xs] 86)) hsz.1 hsz.2)
        have B4 := Lib.hid (HB.out.alloc HB.out.size (.cells #[.string xn, .int .i64 xk, .int .i64 xi, .int .i64 xj, .string xs] 86))
        have X4 := Lib.hid (box_new wr #[.string xn, .int .i64 xk, .int .i64 xi, .int .i64 xj, .string xs] 86)
        have HX := Lib.hid hx
        obtain ⟨r1, h1⟩ : ∃ r, oneB (xn, xk, xi, xj, xs) = r := ⟨_, rfl⟩
        have E1 := Lib.hid h1
        rw [h1] at C
        clear hx px hsz h1
        simp only at p0 p1 p2 p3 p4
        go_wp2_with fail
        refine C.out.mono ?_
        rintro e5 w6 ⟨rfl, hb5⟩
        have BN := Lib.hid (B4.out.trans (hb5.mono B4.out.size))
        have b0 := cell_regrown (show w6.cell? ⟨wr.heap.size, 0, none⟩ = some (.string xn) from (X4.out.on hb5).cell 0)
        clear hb5 C B4 ix p0 p1 p2 p3 p4 X4
        cases r1
        · have R := Lib.hid (show rightP l = false from rightP_not l k hlt (by simp [goodP, HX.out, E1.out]))
          go_wp2
          go_ret
          exact ⟨ret_bool R.out.symm, BN.out⟩
        · cases k with
          | zero =>
            have G := Lib.hid (show goodP l 0 = true by simp [goodP, HX.out, E1.out])
            rw [show ((0 : Nat) : Int) = 0 from rfl]
            go_wp2
            refine wp_region_quiet_below (by kernel_rfl) (by kernel_rfl) ?_
            repeat (go_big_quiet_step (fail))
            refine wpQuiet_nil ?_
            intro _ hw'
            obtain ⟨⟨dq, osq⟩, hw''⟩ := hw'
            subst hw''
            have BZ := Lib.hid (BN.out.trans ((below_regrown w6 dq osq).mono BN.out.size))
            clear b0
            go_wp2
            go_roundw
            case rel => exact ⟨0 + 1, by omega, by go_num, BZ.out, fun j hj => by
              rcases Nat.lt_or_ge j (0) with h3 | h3
              · exact AL.out j h3
              · obtain rfl : j = 0 := by omega
                exact G.out⟩
            case measure => simp [intOf]; omega
          | succ m =>
            obtain ⟨⟨yn, yt, yi, yj, ys⟩, hy⟩ : ∃ y, l[m]? = some y := ⟨_, List.getElem?_eq_getElem (by omega)⟩
            obtain ⟨q, iy, qx⟩ := elC HL.out rfl rfl hy
            have y0 := cell_regrown (qx _ BN.out).1
            have HY := Lib.hid hy
            obtain ⟨r3, h3⟩ : ∃ r, Op.bytesLess yn.toList xn.toList = r := ⟨_, rfl⟩
            have E3 := Lib.hid h3
            clear hy qx
            simp only at y0
            rw [show ((m + 1 : Nat) : Int) = (m : Int) + 1 from rfl]
            have e35 : IntKind.i64.wrap ((m : Int) + 1 - 1) = m := by rw [show (m : Int) + 1 - 1 = m by omega]; exact IntWalk.i64_in _ (by omega)
            have e36 : (m : Int) + 1 - 1 = m := by omega
            cases r3
            · have R := Lib.hid (show rightP l = false from rightP_not l (m + 1) hlt (by simp [goodP, HX.out, E1.out, HY.out, pairC, E3.out]))
              go_wp2
              refine wp_region_quiet_below (by kernel_rfl) (by kernel_rfl) ?_
              repeat (go_big_quiet_step (fail))
              refine wpQuiet_nil ?_
              intro _ hw'
              obtain ⟨⟨dq, osq⟩, hw''⟩ := hw'
              subst hw''
              have BZ := Lib.hid (BN.out.trans ((below_regrown w6 dq osq).mono BN.out.size))
              go_wp2
              go_ret
              exact ⟨ret_bool R.out.symm, BZ.out⟩
            · have G := Lib.hid (show goodP l (m + 1) = true by simp [goodP, HX.out, E1.out, HY.out, pairC, E3.out])
              go_wp2
              refine wp_region_quiet_below (by kernel_rfl) (by kernel_rfl) ?_
              repeat (go_big_quiet_step (fail))
              refine wpQuiet_nil ?_
              intro _ hw'
              obtain ⟨⟨dq, osq⟩, hw''⟩ := hw'
              subst hw''
              have BZ := Lib.hid (BN.out.trans ((below_regrown w6 dq osq).mono BN.out.size))
              clear iy y0 e35 e36 h3 b0
              go_wp2
              go_roundw
              case rel => exact ⟨m + 1 + 1, by omega, by go_num, BZ.out, fun j hj => by
                rcases Nat.lt_or_ge j (m + 1) with h3 | h3
                · exact AL.out j h3
                · obtain rfl : j = m + 1 := by omega
                  exact G.out⟩
              case measure => simp [intOf]; omega
      · obtain rfl : k = l.length := by omega
        have R := Lib.hid (show rightP l = true by rw [rightP_end l AL.out]; simp; omega)
        go_wp2
        go_ret
        exact ⟨ret_bool R.out.symm, HB.out⟩
  · have d0 : decide ((5 : Int) < (l.length : Int)) = true := by simp; omega
    have R := Lib.hid (show rightP l = false by simp [rightP, hfew])
    go_enter Try.func45, Try.ntmps45
    go_wp2
    go_ret
    exact ⟨ret_bool R.out.symm, Below.refl _ _⟩
end Go.Proofs.Ytonoadjmglkhaaa.Avp

namespace Go.Proofs.Ytonoadjmglkhaaa.Av
open Go.RowKit Go.Sort Go.Proofs.Ytonoadjmglkhaaa Go.Proofs.Ytonoadjmglkhaaa.Rw Go.Proofs.Ytonoadjmglkhaaa.Nm Go.Proofs.Ytonoadjmglkhaaa.Pr Go.Proofs.Ytonoadjmglkhaaa.Bk

/-- Texts far below a machine's length. -/
abbrev Tame (p : List C5) : Prop := ∀ x ∈ p, x.1.size ≤ maxLen ∧ x.2.2.2.2.size ≤ maxLen
/-- May an advertisement be among a broker's? -/
def okAd (b : Br) (a : Ad) : Bool := decide (a.id ∈ b.seen) && (comesB b.near a.par && Wr.rightP a.p)
set_option maxRecDepth 100000 in
set_option maxHeartbeats 8000000 in
theorem rad_any (b : Br) (a : Ad) (nv av sv ev ov : Sl) (x : XAd) (w : World) (h : BrIn w b nv av sv ev ov) (ha : AdIn w x a) (hf : Few b) (hn : b.near.Pairwise (· ≤ ·)) (hr : RiseI b.seen) (ht : Tame a.p) :
    Calls Try.prog 39 #[brv b.me nv av sv ev ov, valD x] w fun e w' => e = .returned (.bool (okAd b a)) ∧ Below w.heap.size w w' := by
  obtain ⟨no, nn, nc⟩ := nv
  obtain ⟨ao, an, ac⟩ := av
  obtain ⟨so, sn, sc⟩ := sv
  obtain ⟨eo, en, ec⟩ := ev
  obtain ⟨oo, on_, oc⟩ := ov
  obtain ⟨x1, x2, ⟨xo, xn, xc⟩, x4⟩ := x
  obtain ⟨h0, X, Y⟩ := two_new w #[.int .i64 b.me, .slice no nn nc, .slice ao an ac, .slice so sn sc, .slice eo en ec, .slice oo on_ oc] #[.int .i64 x1, .int .i64 x2, .slice xo xn xc, .int .i64 x4] 33 26
  have B0 := Lib.hid h0
  have HX := Lib.hid X
  have HY := Lib.hid Y
  have C1 := Lib.hid (bsJ_any (.slice so sn sc) b.seen (x1, x2) _ (h.seen.on h0) hr hf.seen)
  have C2 := Lib.hid (fun W' (q : Below w.heap.size w W') => comes_any b.me (no, nn, nc) (.slice ao an ac) (.slice so sn sc) (.slice eo en ec) (.slice oo on_ oc) b.near x4 W' (h.near.on q) hn hf.near)
  have C3 := Lib.hid (fun W' (q : Below w.heap.size w W') => Avp.pright_any (.slice xo xn xc) a.p W' (ha.2.2.on q) ht)
  rw [thereK_in hr] at C1
  have RS := Lib.hid (show okAd b a = (decide ((x1, x2) ∈ b.seen) && (comesB b.near x4 && Wr.rightP a.p)) by unfold okAd; rw [← ha.1, ← ha.2.1])
  generalize okAd b a = res at *
  have em : decide ((x1, x2) ∈ List.map keyJ b.seen) = decide ((x1, x2) ∈ b.seen) := by rw [show List.map keyJ b.seen = b.seen from List.map_id' _]
  rw [em] at C1
  generalize decide ((x1, x2) ∈ b.seen) = r1 at *
  generalize comesB b.near x4 = r2 at *
  generalize Wr.rightP a.p = r3 at *
  generalize placeK keyJ b.seen (x1, x2) = pk at *
  have cx0 := X.cell 0
  have cx1 := X.cell 1
  have cx2 := X.cell 2
  have cx3 := X.cell 3
  have cx4 := X.cell 4
  have cx5 := X.cell 5
  have cy0 := Y.cell 0
  have cy1 := Y.cell 1
  have cy2 := Y.cell 2
  have cy3 := Y.cell 3
  simp only [List.getElem?_toArray, List.getElem?_cons_zero, List.getElem?_cons_succ] at cx0 cx1 cx2 cx3 cx4 cx5 cy0 cy1 cy2 cy3
  clear h0 X Y h ha hf hn hr ht em
  go_enter Try.func39, Try.ntmps39
  go_wp2_with fail
  refine C1.out.mono ?_
  rintro e1 w1 ⟨rfl, hb⟩
  have B1 := Lib.hid (B0.out.trans (hb.mono B0.out.size))
  have X1 := Lib.hid (HX.out.on hb)
  have Y1 := Lib.hid (HY.out.on hb)
  clear hb cx0 cx1 cx2 cx3 cx4 cx5 cy0 cy1 cy2 cy3 HX HY
  have cx0 := X1.out.cell 0
  have cx1 := X1.out.cell 1
  have cx2 := X1.out.cell 2
  have cx3 := X1.out.cell 3
  have cx4 := X1.out.cell 4
  have cx5 := X1.out.cell 5
  have cy0 := Y1.out.cell 0
  have cy1 := Y1.out.cell 1
  have cy2 := Y1.out.cell 2
  have cy3 := Y1.out.cell 3
  simp only [List.getElem?_toArray, List.getElem?_cons_zero, List.getElem?_cons_succ] at cx0 cx1 cx2 cx3 cx4 cx5 cy0 cy1 cy2 cy3
  cases r1
  · go_wp2_with fail
    go_ret
    exact ⟨by rw [RS.out]; rfl, B1.out⟩
  · go_wp2_with fail
    refine (C2.out _ B1.out).mono ?_
    rintro e2 w2 ⟨rfl, hb⟩
    have B2 := Lib.hid (B1.out.trans (hb.mono B1.out.size))
    have Y2 := Lib.hid (Y1.out.on hb)
    clear hb cx0 cx1 cx2 cx3 cx4 cx5 cy0 cy1 cy2 cy3
    have cy0 := Y2.out.cell 0
    have cy1 := Y2.out.cell 1
    have cy2 := Y2.out.cell 2
    have cy3 := Y2.out.cell 3
    simp only [List.getElem?_toArray, List.getElem?_cons_zero, List.getElem?_cons_succ] at cy0 cy1 cy2 cy3
    cases r2
    · go_wp2_with fail
      go_ret
      exact ⟨by rw [RS.out]; rfl, B2.out⟩
    · go_wp2_with fail
      refine (C3.out _ B2.out).mono ?_
      rintro e3 w3 ⟨rfl, hb⟩
      have B3 := Lib.hid (B2.out.trans (hb.mono B2.out.size))
      clear hb cy0 cy1 cy2 cy3
      go_wp2
      go_ret
      exact ⟨by rw [RS.out]; rfl, B3.out⟩
end Go.Proofs.Ytonoadjmglkhaaa.Av

namespace Go.Proofs.Ytonoadjmglkhaaa.Av
open Go.RowKit Go.Sort Go.Proofs.Ytonoadjmglkhaaa Go.Proofs.Ytonoadjmglkhaaa.Rw Go.Proofs.Ytonoadjmglkhaaa.Nm Go.Proofs.Ytonoadjmglkhaaa.Pr Go.Proofs.Ytonoadjmglkhaaa.Bk

/-- May an entry be among a broker's? -/
def okEn (b : Br) (e : En) : Bool := match findA b.adv e.tree with
  | none => false
  | some a => !(e.from_ == a.par && !(a.par == -1)) && (comesB b.near e.from_ && (!(e.up && a.par == -1) && Wr.rightP e.p))
theorem findA_in {W : World} {l : List XAd} {al : List Ad} (hA : All2 (AdIn W) l al) (hr : RiseK keyD l) (t : XID) : (thereK keyD l t = false ∧ findA al t = none) ∨ (thereK keyD l t = true ∧ ∃ (y : XAd) (a : Ad), l[placeK keyD l t]? = some y ∧ findA al t = some a ∧ AdIn W y a) := by
  cases ht : thereK keyD l t with
  | false =>
    refine Or.inl ⟨rfl, findA_none fun j a hj e => ?_⟩
    obtain ⟨y, hy, hya⟩ := hA.at j a hj
    have hm : t ∈ l.map keyD := List.mem_map.2 ⟨y, List.mem_of_getElem? hy, by rw [← e]; exact hya.1⟩
    rw [thereK_in hr, decide_eq_true hm] at ht
    cases ht
  | true =>
    right
    refine ⟨rfl, ?_⟩
    unfold thereK at ht
    cases hy : l[placeK keyD l t]? with
    | none => rw [hy] at ht; cases ht
    | some y =>
      rw [hy] at ht
      have hk : keyD y = t := of_decide_eq_true ht
      have hlt := (List.getElem?_eq_some_iff.1 hy).1
      obtain ⟨a, ha⟩ : ∃ a, al[placeK keyD l t]? = some a := ⟨_, List.getElem?_eq_getElem (by rw [← hA.len]; exact hlt)⟩
      obtain ⟨y', hy', hya⟩ := hA.at _ a ha
      rw [hy] at hy'
      obtain rfl := Option.some.inj hy'
      refine ⟨y, a, rfl, findA_at ha (by rw [← hya.1]; exact hk) (fun j z hj hz e => ?_), hya⟩
      obtain ⟨u, hu, huz⟩ := hA.at j z hz
      have h1 := riseK_lt hr hj hu hy
      rw [show keyD u = t from huz.1.trans e, hk, lessI_irr] at h1
      cases h1
set_option maxRecDepth 100000 in
set_option maxHeartbeats 16000000 in
theorem ren_any (b : Br) (e : En) (nv av sv ev ov : Sl) (x : XEn) (w : World) (h : BrIn w b nv av sv ev ov) (he : EnIn w x e) (hf : Few b) (hn : b.near.Pairwise (· ≤ ·)) (hr : RiseA b.adv) (ht : Tame e.p) :
    Calls Try.prog 42 #[brv b.me nv av sv ev ov, valN x] w fun r w' => r = .returned (.bool (okEn b e)) ∧ Below w.heap.size w w' := by
  obtain ⟨no, nn, nc⟩ := nv
  obtain ⟨ao, an, ac⟩ := av
  obtain ⟨so, sn, sc⟩ := sv
  obtain ⟨eo, en, ec⟩ := ev
  obtain ⟨oo, on_, oc⟩ := ov
  obtain ⟨x1, x2, x3, x4, ⟨xo, xn, xc⟩, x6, x7⟩ := x
  obtain ⟨h0, X, Y⟩ := two_new w #[.int .i64 b.me, .slice no nn nc, .slice ao an ac, .slice so sn sc, .slice eo en ec, .slice oo on_ oc] #[.int .i64 x1, .int .i64 x2, .int .i64 x3, .int .i64 x4, .slice xo xn xc, .int .i64 x6, .bool x7] 33 63
  have B0 := Lib.hid h0
  have HX := Lib.hid X
  have HY := Lib.hid Y
  obtain ⟨la, ha1, ha2⟩ := h.adv
  have hrl : RiseK keyD la := by
    have := (riseK_map Ad.id b.adv).1 hr
    rw [riseK_map, show la.map keyD = b.adv.map Ad.id from by
      clear ha1 this hr hf h
      generalize b.adv = al at ha2
      induction ha2 with
      | nil => rfl
      | cons q _ ih => rw [List.map_cons, List.map_cons, ih]; exact congrArg (· :: _) q.1]
    exact this
  have hla : la.length ≤ 900 := by rw [ha2.len]; exact hf.adv
  have C1 := Lib.hid (bsD_any (.slice ao an ac) la (x1, x2, (none, 0, 0), 0) _ (ha1.on h0) hrl hla)
  have C2 := Lib.hid (fun W' (q : Below w.heap.size w W') => comes_any b.me (no, nn, nc) (.slice ao an ac) (.slice so sn sc) (.slice eo en ec) (.slice oo on_ oc) b.near x6 W' (h.near.on q) hn hf.near)
  have C3 := Lib.hid (fun W' (q : Below w.heap.size w W') => Avp.pright_any (.slice xo xn xc) e.p W' (he.2.2.2.2.on q) ht)
  have FF := findA_in ha2 hrl (x1, x2)
  have HT := he.1
  have HFR := he.2.2.1
  have HUP := he.2.2.2.1
  have HA1 := Lib.hid ha1
  have LL := Lib.hid hla
  have RS := Lib.hid (show okEn b e = match findA b.adv (x1, x2) with | none => false | some a => !(x6 == a.par && !(a.par == -1)) && (comesB b.near x6 && (!(x7 && a.par == -1) && Wr.rightP e.p)) by unfold okEn; rw [← HT, ← HFR, ← HUP])
  generalize okEn b e = res at *
  generalize comesB b.near x6 = r2 at *
  generalize Wr.rightP e.p = r3 at *
  have cx0 := X.cell 0
  have cx1 := X.cell 1
  have cx2 := X.cell 2
  have cx3 := X.cell 3
  have cx4 := X.cell 4
  have cx5 := X.cell 5
  have cy0 := Y.cell 0
  have cy1 := Y.cell 1
  have cy2 := Y.cell 2
  have cy3 := Y.cell 3
  have cy4 := Y.cell 4
  have cy5 := Y.cell 5
  have cy6 := Y.cell 6
  simp only [List.getElem?_toArray, List.getElem?_cons_zero, List.getElem?_cons_succ] at cx0 cx1 cx2 cx3 cx4 cx5 cy0 cy1 cy2 cy3 cy4 cy5 cy6
  clear h0 X Y h he hf hn hr ht hrl hla HT HFR HUP
  rcases FF with ⟨t0, f0⟩ | ⟨t0, y, a, hy, f0, hya⟩
  · have C1 : Hid (Calls Try.prog 54 #[.slice ao an ac, .agg #[.int .i64 x1, .int .i64 x2, .slice none 0 0, .int .i64 0], .func (.func 18) #[] #[]] ((w.alloc (.cells #[.int .i64 b.me, .slice no nn nc, .slice ao an ac, .slice so sn sc, .slice eo en ec, .slice oo on_ oc] 33)).alloc (.cells #[.int .i64 x1, .int .i64 x2, .int .i64 x3, .int .i64 x4, .slice xo xn xc, .int .i64 x6, .bool x7] 63)) fun e1 w' => e1 = .returned (.tuple #[.int .i64 (placeK keyD la (x1, x2)), .bool false]) ∧ Below ((w.alloc (.cells #[.int .i64 b.me, .slice no nn nc, .slice ao an ac, .slice so sn sc, .slice eo en ec, .slice oo on_ oc] 33)).alloc (.cells #[.int .i64 x1, .int .i64 x2, .int .i64 x3, .int .i64 x4, .slice xo xn xc, .int .i64 x6, .bool x7] 63)).heap.size ((w.alloc (.cells #[.int .i64 b.me, .slice no nn nc, .slice ao an ac, .slice so sn sc, .slice eo en ec, .slice oo on_ oc] 33)).alloc (.cells #[.int .i64 x1, .int .i64 x2, .int .i64 x3, .int .i64 x4, .slice xo xn xc, .int .i64 x6, .bool x7] 63)) w') := by rw [← t0]; exact C1
    have RF := Lib.hid (show res = false by rw [RS.out, f0])
    clear RS t0 f0 HA1 ha1 ha2
    go_enter Try.func42, Try.ntmps42
    go_wp2_with fail
    refine C1.out.mono ?_
    rintro e1 w1 ⟨rfl, hb⟩
    have B1 := Lib.hid (B0.out.trans (hb.mono B0.out.size))
    clear hb
    go_wp2_with fail
    go_ret
    exact ⟨by rw [RF.out]; rfl, B1.out⟩
  · have C1 : Hid (Calls Try.prog 54 #[.slice ao an ac, .agg #[.int .i64 x1, .int .i64 x2, .slice none 0 0, .int .i64 0], .func (.func 18) #[] #[]] ((w.alloc (.cells #[.int .i64 b.me, .slice no nn nc, .slice ao an ac, .slice so sn sc, .slice eo en ec, .slice oo on_ oc] 33)).alloc (.cells #[.int .i64 x1, .int .i64 x2, .int .i64 x3, .int .i64 x4, .slice xo xn xc, .int .i64 x6, .bool x7] 63)) fun e1 w' => e1 = .returned (.tuple #[.int .i64 (placeK keyD la (x1, x2)), .bool true]) ∧ Below ((w.alloc (.cells #[.int .i64 b.me, .slice no nn nc, .slice ao an ac, .slice so sn sc, .slice eo en ec, .slice oo on_ oc] 33)).alloc (.cells #[.int .i64 x1, .int .i64 x2, .int .i64 x3, .int .i64 x4, .slice xo xn xc, .int .i64 x6, .bool x7] 63)).heap.size ((w.alloc (.cells #[.int .i64 b.me, .slice no nn nc, .slice ao an ac, .slice so sn sc, .slice eo en ec, .slice oo on_ oc] 33)).alloc (.cells #[.int .i64 x1, .int .i64 x2, .int .i64 x3, .int .i64 x4, .slice xo xn xc, .int .i64 x6, .bool x7] 63)) w') := by rw [← t0]; exact C1
    obtain ⟨uo, uc, hv⟩ := ha1.len
    have hv : Value.slice ao an ac = .slice uo la.length uc := hv
    obtain ⟨rfl, rfl, rfl⟩ : ao = uo ∧ an = la.length ∧ ac = uc := by simpa using hv
    obtain ⟨p, ix, px⟩ := elD HA1.out rfl rfl hy
    obtain ⟨y1, y2, ⟨yo, yn, yc⟩, y4⟩ := y
    have hpar : a.par = y4 := hya.2.1.symm
    have RS := Lib.hid (show res = (!(x6 == y4 && !(y4 == -1)) && (r2 && (!(x7 && y4 == -1) && r3))) by rw [RS.out, f0]; simp only; rw [hpar])
    obtain ⟨q1, hq1⟩ : ∃ q, (x6 == y4) = q := ⟨_, rfl⟩
    obtain ⟨q2, hq2⟩ : ∃ q, (y4 == -1) = q := ⟨_, rfl⟩
    rw [hq1, hq2] at RS
    generalize placeK keyD la (x1, x2) = pk at *
    generalize la.length = n at *
    clear t0 f0 HA1 ha1 ha2 hy hya hpar hv
    have PX := Lib.hid px
    clear px
    go_enter Try.func42, Try.ntmps42
    go_wp2_with fail
    refine C1.out.mono ?_
    rintro e1 w1 ⟨rfl, hb⟩
    have B1 := Lib.hid (B0.out.trans (hb.mono B0.out.size))
    have X1 := Lib.hid (HX.out.on hb)
    have Y1 := Lib.hid (HY.out.on hb)
    clear hb cx0 cx1 cx2 cx3 cx4 cx5 cy0 cy1 cy2 cy3 cy4 cy5 cy6 HX HY C1
    have cx0 := X1.out.cell 0
    have cx1 := X1.out.cell 1
    have cx2 := X1.out.cell 2
    have cx3 := X1.out.cell 3
    have cx4 := X1.out.cell 4
    have cx5 := X1.out.cell 5
    have cy0 := Y1.out.cell 0
    have cy1 := Y1.out.cell 1
    have cy2 := Y1.out.cell 2
    have cy3 := Y1.out.cell 3
    have cy4 := Y1.out.cell 4
    have cy5 := Y1.out.cell 5
    have cy6 := Y1.out.cell 6
    simp only [List.getElem?_toArray, List.getElem?_cons_zero, List.getElem?_cons_succ] at cx0 cx1 cx2 cx3 cx4 cx5 cy0 cy1 cy2 cy3 cy4 cy5 cy6
    have p3 := (PX.out w1 B1.out).2.2.2
    cases q1
    · go_wp2_with fail
      go_quiet (fail)
      go_wp2_with fail
      have BQ := Lib.hid (show Below w.heap.size w (w1.drewN nq) from ⟨B1.out.os, B1.out.tape, B1.out.output, B1.out.size, B1.out.block⟩)
      have YQ := Lib.hid (show Box (w1.drewN nq) (w.heap.size + 1) #[.int .i64 x1, .int .i64 x2, .int .i64 x3, .int .i64 x4, .slice xo xn xc, .int .i64 x6, .bool x7] 63 from Y1.out)
      clear cx0 cx1 cx2 cx3 cx4 cx5 cy0 cy1 cy2 cy3 cy4 cy5 cy6 p3 ix X1 Y1 hq1
      refine (C2.out _ BQ.out).mono ?_
      rintro e2 w2 ⟨rfl, hb⟩
      have B2 := Lib.hid (BQ.out.trans (hb.mono BQ.out.size))
      have Y2 := Lib.hid (YQ.out.on hb)
      clear hb BQ YQ B1
      have cy0 := Y2.out.cell 0
      have cy1 := Y2.out.cell 1
      have cy2 := Y2.out.cell 2
      have cy3 := Y2.out.cell 3
      have cy4 := Y2.out.cell 4
      have cy5 := Y2.out.cell 5
      have cy6 := Y2.out.cell 6
      simp only [List.getElem?_toArray, List.getElem?_cons_zero, List.getElem?_cons_succ] at cy0 cy1 cy2 cy3 cy4 cy5 cy6
      cases r2
      · go_wp2_with fail
        go_ret
        exact ⟨by rw [RS.out]; simp, B2.out⟩
      cases x7
      · go_wp2_with fail
        refine (C3.out _ B2.out).mono ?_
        rintro e3 w3 ⟨rfl, hb⟩
        have B3 := Lib.hid (B2.out.trans (hb.mono B2.out.size))
        clear hb cy0 cy1 cy2 cy3 cy4 cy5 cy6
        go_wp2
        go_ret
        exact ⟨by rw [RS.out]; simp, B3.out⟩
      cases q2
      · go_wp2_with fail
        refine (C3.out _ B2.out).mono ?_
        rintro e3 w3 ⟨rfl, hb⟩
        have B3 := Lib.hid (B2.out.trans (hb.mono B2.out.size))
        clear hb cy0 cy1 cy2 cy3 cy4 cy5 cy6
        go_wp2
        go_ret
        exact ⟨by rw [RS.out]; simp, B3.out⟩
      · go_wp2_with fail
        go_ret
        exact ⟨by rw [RS.out]; simp, B2.out⟩
    · cases q2
      · go_wp2_with fail
        go_quiet (fail)
        go_wp2_with fail
        go_ret
        exact ⟨by rw [RS.out]; simp, ⟨B1.out.os, B1.out.tape, B1.out.output, B1.out.size, B1.out.block⟩⟩
      · go_wp2_with fail
        go_quiet (fail)
        go_wp2_with fail
        have BQ := Lib.hid (show Below w.heap.size w (w1.drewN nq) from ⟨B1.out.os, B1.out.tape, B1.out.output, B1.out.size, B1.out.block⟩)
        have YQ := Lib.hid (show Box (w1.drewN nq) (w.heap.size + 1) #[.int .i64 x1, .int .i64 x2, .int .i64 x3, .int .i64 x4, .slice xo xn xc, .int .i64 x6, .bool x7] 63 from Y1.out)
        clear cx0 cx1 cx2 cx3 cx4 cx5 cy0 cy1 cy2 cy3 cy4 cy5 cy6 p3 ix X1 Y1 hq1
        refine (C2.out _ BQ.out).mono ?_
        rintro e2 w2 ⟨rfl, hb⟩
        have B2 := Lib.hid (BQ.out.trans (hb.mono BQ.out.size))
        have Y2 := Lib.hid (YQ.out.on hb)
        clear hb BQ YQ B1
        have cy0 := Y2.out.cell 0
        have cy1 := Y2.out.cell 1
        have cy2 := Y2.out.cell 2
        have cy3 := Y2.out.cell 3
        have cy4 := Y2.out.cell 4
        have cy5 := Y2.out.cell 5
        have cy6 := Y2.out.cell 6
        simp only [List.getElem?_toArray, List.getElem?_cons_zero, List.getElem?_cons_succ] at cy0 cy1 cy2 cy3 cy4 cy5 cy6
        cases r2
        · go_wp2_with fail
          go_ret
          exact ⟨by rw [RS.out]; simp, B2.out⟩
        cases x7
        · go_wp2_with fail
          refine (C3.out _ B2.out).mono ?_
          rintro e3 w3 ⟨rfl, hb⟩
          have B3 := Lib.hid (B2.out.trans (hb.mono B2.out.size))
          clear hb cy0 cy1 cy2 cy3 cy4 cy5 cy6
          go_wp2
          go_ret
          exact ⟨by rw [RS.out]; simp, B3.out⟩
        · go_wp2_with fail
          go_ret
          exact ⟨by rw [RS.out]; simp, B2.out⟩
end Go.Proofs.Ytonoadjmglkhaaa.Av
