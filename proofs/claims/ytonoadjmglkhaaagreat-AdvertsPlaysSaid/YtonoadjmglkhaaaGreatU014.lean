/-
  RightOne and Right of package pred, on any list. Condition: texts below a machine's length.
  The two loops of Learn that look for a place. Condition: at most a million elements.
  The two loops of Learn that look for a place. Condition: at most a million elements.
-/
import Derived.Test.YtonoadjmglkhaaaGreatU012
import Derived.Test.YtonoadjmglkhaaaGreatU013
import Derived.Test.YtonoadjmglkhaaaGreatU010
import Derived.Test.YtonoadjmglkhaaaGreatU003
import Derived.Test.YtonoadjmglkhaaaGreatU008
import Derived.Lib.QuietBelow
import Derived.BigQuiet
namespace Go.Proofs.YtonoadjmglkhaaaGreat.Avp
open Go.RowKit Go.Sort Go.Proofs.YtonoadjmglkhaaaGreat Go.Proofs.YtonoadjmglkhaaaGreat.Rw Go.Proofs.YtonoadjmglkhaaaGreat.Nm Go.Proofs.YtonoadjmglkhaaaGreat.At Go.Proofs.YtonoadjmglkhaaaGreat.Pr Go.Proofs.YtonoadjmglkhaaaGreat.Wr Go.Proofs.YtonoadjmglkhaaaGreat.Va

theorem new_below (w : World) (o : Obj) : Below w.heap.size w (w.alloc o) := (Below.refl _ _).alloc (Nat.le_refl _) _
theorem noText_is (t : ByteArray) : t.toList.isEmpty = decide (t.size = 0) := by
  rw [ByteArray.toList_eq]
  obtain ⟨⟨l⟩⟩ := t
  cases l <;> simp [ByteArray.size]
theorem name_at (s : ByteArray) (w : World) (hs : s.size ≤ maxLen) :
    Calls Tryz.prog 122 #[.string s] w fun e w' => e = .returned (.bool (nameB s)) ∧ w = w' := Pr.name_same s w hs

set_option maxRecDepth 100000 in
set_option maxHeartbeats 4000000 in
theorem pone_range (s t : ByteArray) (lo hi : Int) (w : World) (hs : s.size ≤ maxLen) :
    Calls Tryz.prog 94 #[cv (s, 1, lo, hi, t)] w fun e w' => e = .returned (.bool (oneB (s, 1, lo, hi, t))) ∧ Below w.heap.size w w' := by
  have B := Lib.hid (new_below w (.cells #[.string s, .int .i64 1, .int .i64 lo, .int .i64 hi, .string t] 62))
  have NM := Lib.hid (fun w => name_at s w hs)
  have R := Lib.hid (show oneB (s, 1, lo, hi, t) = (At.nameB s && (decide (lo ≤ hi) && t.toList.isEmpty)) by simp [oneB, noText_is, Bool.and_comm])
  generalize At.nameB s = b at *
  cases b
  · go_enter Tryz.func94, Tryz.ntmps94
    go_wp2_with fail
    refine (NM.out _).mono ?_
    rintro e w' ⟨rfl, rfl⟩
    go_wp2
    go_ret
    exact ⟨by rw [R.out]; rfl, B.out⟩
  obtain ⟨b1, h1⟩ : ∃ b, decide (lo ≤ hi) = b := ⟨_, rfl⟩
  rw [h1] at R
  cases b1
  · go_enter Tryz.func94, Tryz.ntmps94
    go_wp2_with fail
    refine (NM.out _).mono ?_
    rintro e w' ⟨rfl, rfl⟩
    go_wp2
    go_ret
    exact ⟨by rw [R.out]; rfl, B.out⟩
  by_cases he : t.toList = []
  · have R2 := Lib.hid (show oneB (s, 1, lo, hi, t) = true by rw [R.out, he]; rfl)
    go_enter Tryz.func94, Tryz.ntmps94
    go_wp2_with fail
    refine (NM.out _).mono ?_
    rintro e w' ⟨rfl, rfl⟩
    go_wp2
    go_ret
    exact ⟨by rw [R2.out]; rfl, B.out⟩
  · have he2 : t.toList.isEmpty = false := by simpa using he
    have R2 := Lib.hid (show oneB (s, 1, lo, hi, t) = false by rw [R.out, he2]; rfl)
    go_enter Tryz.func94, Tryz.ntmps94
    go_wp2_with fail
    refine (NM.out _).mono ?_
    rintro e w' ⟨rfl, rfl⟩
    go_wp2
    go_ret
    exact ⟨by rw [R2.out]; rfl, B.out⟩
theorem oneB_text2 (s t : ByteArray) (lo hi : Int) : oneB (s, 2, lo, hi, t) = (At.nameB s && ((lo == 0) && ((hi == 0) && decide ((t.size : Int) ≤ 12)))) := by
  have e : ∀ x : Int, decide (x = 0) = (x == 0) := fun x => by rw [Bool.eq_iff_iff]; simp
  have e3 : decide ((t.size : Int) ≤ 12) = decide (t.size ≤ 12) := by rw [Bool.eq_iff_iff]; simp; omega
  unfold oneB
  simp [e, e3]
theorem oneB_text3 (s t : ByteArray) (lo hi : Int) : oneB (s, 3, lo, hi, t) = (At.nameB s && (!decide ((12 : Int) ≤ (t.size : Int)) && ((lo == 0) && (hi == 0)))) := by
  have e : ∀ x : Int, decide (x = 0) = (x == 0) := fun x => by rw [Bool.eq_iff_iff]; simp
  unfold oneB
  simp only [e]
  rw [Bool.eq_iff_iff]
  simp
  omega
set_option maxRecDepth 100000 in
set_option maxHeartbeats 8000000 in
theorem pone_text (s t : ByteArray) (lo hi : Int) (w : World) (hs : s.size ≤ maxLen) (_ht : t.size ≤ maxLen) :
    Calls Tryz.prog 94 #[cv (s, 2, lo, hi, t)] w fun e w' => e = .returned (.bool (oneB (s, 2, lo, hi, t))) ∧ Below w.heap.size w w' := by
  have B := Lib.hid (new_below w (.cells #[.string s, .int .i64 2, .int .i64 lo, .int .i64 hi, .string t] 62))
  have NM := Lib.hid (fun w => name_at s w hs)
  have R := Lib.hid (oneB_text2 s t lo hi)
  generalize At.nameB s = b at *
  obtain ⟨b1, h1⟩ : ∃ x, (lo == 0) = x := ⟨_, rfl⟩
  obtain ⟨b2, h2⟩ : ∃ x, (hi == 0) = x := ⟨_, rfl⟩
  obtain ⟨b3, h3⟩ : ∃ x, decide ((t.size : Int) ≤ 12) = x := ⟨_, rfl⟩
  rw [h1, h2, h3] at R
  cases b <;> cases b1 <;> cases b2 <;> cases b3 <;> (
    go_enter Tryz.func94, Tryz.ntmps94
    go_wp2_with fail
    refine (NM.out _).mono ?_
    rintro e w' ⟨rfl, rfl⟩
    go_wp2
    go_ret
    exact ⟨by rw [R.out]; rfl, B.out⟩)
set_option maxRecDepth 100000 in
set_option maxHeartbeats 8000000 in
theorem pone_prefix (s t : ByteArray) (lo hi : Int) (w : World) (hs : s.size ≤ maxLen) (_ht : t.size ≤ maxLen) :
    Calls Tryz.prog 94 #[cv (s, 3, lo, hi, t)] w fun e w' => e = .returned (.bool (oneB (s, 3, lo, hi, t))) ∧ Below w.heap.size w w' := by
  have B := Lib.hid (new_below w (.cells #[.string s, .int .i64 3, .int .i64 lo, .int .i64 hi, .string t] 62))
  have NM := Lib.hid (fun w => name_at s w hs)
  have R := Lib.hid (oneB_text3 s t lo hi)
  have h4 : decide ((12 : Int) ≤ (t.size : Int)) = false → decide ((t.size : Int) ≤ 12) = true := by
    intro h
    simp at h ⊢
    omega
  generalize At.nameB s = b at *
  obtain ⟨b1, h1⟩ : ∃ x, (lo == 0) = x := ⟨_, rfl⟩
  obtain ⟨b2, h2⟩ : ∃ x, (hi == 0) = x := ⟨_, rfl⟩
  obtain ⟨b3, h3⟩ : ∃ x, decide ((12 : Int) ≤ (t.size : Int)) = x := ⟨_, rfl⟩
  rw [h1, h2, h3] at R
  cases b3
  · have h5 := h4 h3
    clear h4
    cases b <;> cases b1 <;> cases b2 <;> (
      go_enter Tryz.func94, Tryz.ntmps94
      go_wp2_with fail
      refine (NM.out _).mono ?_
      rintro e w' ⟨rfl, rfl⟩
      go_wp2
      go_ret
      exact ⟨by rw [R.out]; rfl, B.out⟩)
  · clear h4
    cases b <;> (
      go_enter Tryz.func94, Tryz.ntmps94
      go_wp2_with fail
      refine (NM.out _).mono ?_
      rintro e w' ⟨rfl, rfl⟩
      go_wp2
      go_ret
      exact ⟨by rw [R.out]; rfl, B.out⟩)
set_option maxRecDepth 100000 in
set_option maxHeartbeats 8000000 in
theorem pone_other (s t : ByteArray) (k lo hi : Int) (w : World) (hs : s.size ≤ maxLen) (h1 : k ≠ 1) (h2 : k ≠ 2) (h3 : k ≠ 3) :
    Calls Tryz.prog 94 #[cv (s, k, lo, hi, t)] w fun e w' => e = .returned (.bool (oneB (s, k, lo, hi, t))) ∧ Below w.heap.size w w' := by
  have B := Lib.hid (new_below w (.cells #[.string s, .int .i64 k, .int .i64 lo, .int .i64 hi, .string t] 62))
  have NM := Lib.hid (fun w => name_at s w hs)
  have R := Lib.hid (show oneB (s, k, lo, hi, t) = false by simp [oneB, h1, h2, h3])
  have e1 : (k == 1) = false := by simpa using h1
  have e2 : (k == 2) = false := by simpa using h2
  have e3 : (k == 3) = false := by simpa using h3
  clear h1 h2 h3
  generalize At.nameB s = b at *
  cases b <;> (
    go_enter Tryz.func94, Tryz.ntmps94
    go_wp2_with fail
    refine (NM.out _).mono ?_
    rintro e w' ⟨rfl, rfl⟩
    go_wp2
    go_ret
    exact ⟨by rw [R.out]; rfl, B.out⟩)
theorem pone_any (c : C5) (w : World) (hs : c.1.size ≤ maxLen) (ht : c.2.2.2.2.size ≤ maxLen) :
    Calls Tryz.prog 94 #[cv c] w fun e w' => e = .returned (.bool (oneB c)) ∧ Below w.heap.size w w' := by
  obtain ⟨s, k, lo, hi, t⟩ := c
  by_cases h1 : k = 1
  · subst h1; exact pone_range s t lo hi w hs
  by_cases h2 : k = 2
  · subst h2; exact pone_text s t lo hi w hs ht
  by_cases h3 : k = 3
  · subst h3; exact pone_prefix s t lo hi w hs ht
  exact pone_other s t k lo hi w hs h1 h2 h3
set_option maxRecDepth 100000 in
set_option maxHeartbeats 8000000 in
theorem pright_any (lv : Value) (l : List C5) (w : World) (hl : RowC w lv l) (hs : ∀ x ∈ l, x.1.size ≤ maxLen ∧ x.2.2.2.2.size ≤ maxLen) :
    Calls Tryz.prog 69 #[lv] w fun e w' => e = .returned (.bool (rightP l)) ∧ Below w.heap.size w w' := by
  have HL := Lib.hid hl
  have HS := Lib.hid hs
  have HM := Lib.hid hl.most
  obtain ⟨ao, ac, rfl⟩ := hl.len
  clear hl hs
  by_cases hfew : l.length ≤ 5
  · have d0 : decide ((5 : Int) < (l.length : Int)) = false := by simp; omega
    go_enter Tryz.func69, Tryz.ntmps69
    go_wp2
    go_loopw [10] (fun i wr => ∃ k : Nat, k ≤ l.length ∧ i = .int .i64 k ∧ Below w.heap.size w wr ∧ ∀ j, j < k → goodP l j = true) (fun i _ => l.length - (intOf i).toNat)
    case atStart => exact ⟨0, Nat.zero_le _, rfl, Below.refl _ _, fun j h => by omega⟩
    case round =>
      obtain ⟨k, hk, rfl, hb, hall⟩ := hrel
      have HB := Lib.hid hb
      have AL := Lib.hid hall
      clear hb hall d0
      by_cases hlt : k < l.length
      · obtain ⟨⟨xn, xk, xi, xj, xs⟩, hx⟩ : ∃ x, l[k]? = some x := ⟨_, List.getElem?_eq_getElem hlt⟩
        obtain ⟨p, ix, px⟩ := elC HL.out rfl rfl hx
        obtain ⟨p0, p1, p2, p3, p4⟩ := px _ HB.out
        have hsz := HS.out _ (List.mem_of_getElem? hx)
        have C := Lib.hid (pone_any (xn, xk, xi, xj, xs) (wr.alloc (.cells #[.string xn, .int .i64 xk, .int .i64 xi, .int .i64 xj, .string xs] 62)) hsz.1 hsz.2)
        have B4 := Lib.hid (HB.out.alloc HB.out.size (.cells #[.string xn, .int .i64 xk, .int .i64 xi, .int .i64 xj, .string xs] 62))
        have X4 := Lib.hid (box_new wr #[.string xn, .int .i64 xk, .int .i64 xi, .int .i64 xj, .string xs] 62)
        have HX := Lib.hid hx
        obtain ⟨r1, h1⟩ : ∃ r, oneB (xn, xk, xi, xj, xs) = r := ⟨_, rfl⟩
        have E1 := Lib.hid h1
        rw [h1] at C
        clear hx px hsz h1
        simp only at p0 p1 p2 p3 p4
        go_wp2_with fail
        refine C.out.mono ?_
        rintro e5 w6 ⟨rfl, hb5⟩
        have BN := Lib.hid (B4.out.trans (hb5.mono B4.out.size))
        have b0 := cell_regrown (show w6.cell? ⟨wr.heap.size, 0, none⟩ = some (.string xn) from (X4.out.on hb5).cell 0)
        clear hb5 C B4 ix p0 p1 p2 p3 p4 X4
        cases r1
        · have R := Lib.hid (show rightP l = false from rightP_not l k hlt (by simp [goodP, HX.out, E1.out]))
          go_wp2
          go_ret
          exact ⟨ret_bool R.out.symm, BN.out⟩
        · cases k with
          | zero =>
            have G := Lib.hid (show goodP l 0 = true by simp [goodP, HX.out, E1.out])
            rw [show ((0 : Nat) : Int) = 0 from rfl]
            go_wp2
            refine wp_region_quiet_below (by kernel_rfl) (by kernel_rfl) ?_
            repeat (go_big_quiet_step (fail))
            refine wpQuiet_nil ?_
            intro _ hw'
            obtain ⟨⟨dq, osq⟩, hw''⟩ := hw'
            subst hw''
            have BZ := Lib.hid (BN.out.trans ((below_regrown w6 dq osq).mono BN.out.size))
            clear b0
            go_wp2
            go_roundw
            case rel => exact ⟨0 + 1, by omega, by go_num, BZ.out, fun j hj => by
              rcases Nat.lt_or_ge j (0) with h3 | h3
              · exact AL.out j h3
              · obtain rfl : j = 0 := by omega
                exact G.out⟩
            case measure => simp [intOf]; omega
          | succ m =>
            obtain ⟨⟨yn, yt, yi, yj, ys⟩, hy⟩ : ∃ y, l[m]? = some y := ⟨_, List.getElem?_eq_getElem (by omega)⟩
            obtain ⟨q, iy, qx⟩ := elC HL.out rfl rfl hy
            have y0 := cell_regrown (qx _ BN.out).1
            have HY := Lib.hid hy
            obtain ⟨r3, h3⟩ : ∃ r, Op.bytesLess yn.toList xn.toList = r := ⟨_, rfl⟩
            have E3 := Lib.hid h3
            clear hy qx
            simp only at y0
            rw [show ((m + 1 : Nat) : Int) = (m : Int) + 1 from rfl]
            have e35 : IntKind.i64.wrap ((m : Int) + 1 - 1) = m := by rw [show (m : Int) + 1 - 1 = m by omega]; exact IntWalk.i64_in _ (by omega)
            have e36 : (m : Int) + 1 - 1 = m := by omega
            cases r3
            · have R := Lib.hid (show rightP l = false from rightP_not l (m + 1) hlt (by simp [goodP, HX.out, E1.out, HY.out, pairC, E3.out]))
              go_wp2
              refine wp_region_quiet_below (by kernel_rfl) (by kernel_rfl) ?_
              repeat (go_big_quiet_step (fail))
              refine wpQuiet_nil ?_
              intro _ hw'
              obtain ⟨⟨dq, osq⟩, hw''⟩ := hw'
              subst hw''
              have BZ := Lib.hid (BN.out.trans ((below_regrown w6 dq osq).mono BN.out.size))
              go_wp2
              go_ret
              exact ⟨ret_bool R.out.symm, BZ.out⟩
            · have G := Lib.hid (show goodP l (m + 1) = true by simp [goodP, HX.out, E1.out, HY.out, pairC, E3.out])
              go_wp2
              refine wp_region_quiet_below (by kernel_rfl) (by kernel_rfl) ?_
              repeat (go_big_quiet_step (fail))
              refine wpQuiet_nil ?_
              intro _ hw'
              obtain ⟨⟨dq, osq⟩, hw''⟩ := hw'
              subst hw''
              have BZ := Lib.hid (BN.out.trans ((below_regrown w6 dq osq).mono BN.out.size))
              clear iy y0 e35 e36 h3 b0
              go_wp2
              go_roundw
              case rel => exact ⟨m + 1 + 1, by omega, by go_num, BZ.out, fun j hj => by
                rcases Nat.lt_or_ge j (m + 1) with h3 | h3
                · exact AL.out j h3
                · obtain rfl : j = m + 1 := by omega
                  exact G.out⟩
              case measure => simp [intOf]; omega
      · obtain rfl : k = l.length := by omega
        have R := Lib.hid (show rightP l = true by rw [rightP_end l AL.out]; simp; omega)
        go_wp2
        go_ret
        exact ⟨ret_bool R.out.symm, HB.out⟩
  · have d0 : decide ((5 : Int) < (l.length : Int)) = true := by simp; omega
    have R := Lib.hid (show rightP l = false by simp [rightP, hfew])
    go_enter Tryz.func69, Tryz.ntmps69
    go_wp2
    go_ret
    exact ⟨ret_bool R.out.symm, Below.refl _ _⟩
end Go.Proofs.YtonoadjmglkhaaaGreat.Avp

namespace Go.Proofs.YtonoadjmglkhaaaGreat.Bk
open Go.RowKit Go.Sort Go.Proofs.YtonoadjmglkhaaaGreat Go.Proofs.YtonoadjmglkhaaaGreat.Rw Go.Proofs.YtonoadjmglkhaaaGreat.Nm Go.Proofs.YtonoadjmglkhaaaGreat.Pr

theorem place_is (l : List Id) (x : Id) (k : Nat) (hall : ∀ (j : Nat) (y : Id), j < k → l[j]? = some y → lessI y x = true) (hend : k = l.length ∨ ∃ y, l[k]? = some y ∧ lessI y x = false) : placeI l x = k := by
  unfold placeI
  induction l generalizing k with
  | nil =>
    rcases hend with h | ⟨y, h, _⟩
    · rw [h]; rfl
    · simp at h
  | cons a l ih =>
    cases k with
    | zero =>
      rcases hend with h | ⟨y, h, h2⟩
      · simp at h
      · obtain rfl : a = y := by simpa using h
        rw [List.takeWhile_cons, h2]
        rfl
    | succ k =>
      have h0 := hall 0 a (by omega) rfl
      rw [List.takeWhile_cons, h0]
      simp only [if_true, List.length_cons]
      rw [ih k (fun j y hj hy => hall (j + 1) y (by omega) (by simpa using hy)) (by
        rcases hend with h | ⟨y, h, h2⟩
        · exact Or.inl (by simpa using h)
        · exact Or.inr ⟨y, by simpa using h, h2⟩)]
noncomputable def learnB0 : Code := ((Tryz.f11.body.bind (findBlock 0)).getD .skip)
set_option maxRecDepth 100000 in
set_option maxHeartbeats 8000000 in
theorem learn_b0 (Q : Exit → Act → World → Prop) (W : World) (b2 b3 : Nat) (me c d : Int) (y1 y2 y4 y5 p3 q3 : Value) (so : Option Addr) (n sc : Nat) (l : List XID) (u0 u1 u4 u5 u7 u8 u9 u10 u11 u12 u13 u14 u15 u16 u17 u18 u19 u20 u21 u22 u23 u24 u25 u26 u27 u28 u29 u30 u31 u32 u33 u34 u35 u36 u37 u38 u39 u40 u41 u42 u43 u44 u45 u46 u47 u48 u49 u50 u51 u52 u53 u54 u55 u56 u57 u58 u59 u60 u61 u62 u63 u64 u65 u66 u67 u68 u69 u70 u71 u72 u73 u74 u75 u76 u77 u78 : Value)
    (h2 : Box W b2 #[.int .i64 me, y1, y2, .slice so n sc, y4, y5] 29) (h3 : Box W b3 #[.int .i64 c, .int .i64 d, p3, q3] 42) (hs : RowJ W (.slice so n sc) l) (hn : n = l.length) (hm : n ≤ 1000000)
    (hQ : ∀ (wr : World) (v12 v13 v14 v15 v16 v17 v18 v19 v20 v21 v22 v23 v24 v25 v26 v27 v28 : Value), Below W.heap.size W wr → Q .normal ⟨(u0 :: u1 :: .pointer (some ⟨b2, 0, none⟩) :: .pointer (some ⟨b3, 0, none⟩) :: u4 :: u5 :: .int .i64 (placeI l (c, d) : Nat) :: u7 :: u8 :: u9 :: u10 :: u11 :: v12 :: v13 :: v14 :: v15 :: v16 :: v17 :: v18 :: v19 :: v20 :: v21 :: v22 :: v23 :: v24 :: v25 :: v26 :: v27 :: v28 :: u29 :: u30 :: u31 :: u32 :: u33 :: u34 :: u35 :: u36 :: u37 :: u38 :: u39 :: u40 :: u41 :: u42 :: u43 :: u44 :: u45 :: u46 :: u47 :: u48 :: u49 :: u50 :: u51 :: u52 :: u53 :: u54 :: u55 :: u56 :: u57 :: u58 :: u59 :: u60 :: u61 :: u62 :: u63 :: u64 :: u65 :: u66 :: u67 :: u68 :: u69 :: u70 :: u71 :: u72 :: u73 :: u74 :: u75 :: u76 :: u77 :: u78 :: []).toArray, []⟩ wr) :
    Code.wp Tryz.prog learnB0 Q ⟨(u0 :: u1 :: .pointer (some ⟨b2, 0, none⟩) :: .pointer (some ⟨b3, 0, none⟩) :: u4 :: u5 :: .int .i64 0 :: u7 :: u8 :: u9 :: u10 :: u11 :: u12 :: u13 :: u14 :: u15 :: u16 :: u17 :: u18 :: u19 :: u20 :: u21 :: u22 :: u23 :: u24 :: u25 :: u26 :: u27 :: u28 :: u29 :: u30 :: u31 :: u32 :: u33 :: u34 :: u35 :: u36 :: u37 :: u38 :: u39 :: u40 :: u41 :: u42 :: u43 :: u44 :: u45 :: u46 :: u47 :: u48 :: u49 :: u50 :: u51 :: u52 :: u53 :: u54 :: u55 :: u56 :: u57 :: u58 :: u59 :: u60 :: u61 :: u62 :: u63 :: u64 :: u65 :: u66 :: u67 :: u68 :: u69 :: u70 :: u71 :: u72 :: u73 :: u74 :: u75 :: u76 :: u77 :: u78 :: []).toArray, []⟩ W := by
  have HQ := Lib.hid hQ
  have H2 := Lib.hid h2
  have H3 := Lib.hid h3
  have HS := Lib.hid hs
  have HN := Lib.hid hn
  clear hQ h2 h3 hs hn
  conv => arg 2; whnf
  go_wp2
  go_loopw [6] (fun i wr => ∃ k : Nat, k ≤ n ∧ i = .int .i64 k ∧ Below W.heap.size W wr ∧ ∀ (j : Nat) (y : Id), j < k → l[j]? = some y → lessI y (c, d) = true) (fun i _ => n - (intOf i).toNat)
  case atStart => exact ⟨0, Nat.zero_le _, rfl, Below.refl _ _, fun j y h => by omega⟩
  case round =>
    obtain ⟨k, hk, rfl, hbe, hall⟩ := hrel
    have BE := Lib.hid hbe
    have AL := Lib.hid hall
    clear hbe hall
    have q0 := cell_regrown (show wr.cell? ⟨b2, 3, none⟩ = some (.slice so n sc) from (H2.out.on BE.out).cell 3)
    have r0 := cell_regrown (show wr.cell? ⟨b3, 0, none⟩ = some (.int .i64 c) from (H3.out.on BE.out).cell 0)
    have r1 := cell_regrown (show wr.cell? ⟨b3, 1, none⟩ = some (.int .i64 d) from (H3.out.on BE.out).cell 1)
    have hw3 : IntKind.i64.wrap ((k : Int) + 1) = (k : Int) + 1 := IntWalk.i64_in _ (by omega)
    by_cases hlt : k < n
    · obtain ⟨y, hy⟩ : ∃ y, l[k]? = some y := ⟨_, List.getElem?_eq_getElem (by rw [← HN.out]; exact hlt)⟩
      obtain ⟨p, ix, px⟩ := elJ HS.out rfl HN.out.symm hy
      have px2 := px wr BE.out
      obtain ⟨y1, y2⟩ := y
      simp only at px2
      have p0 := cell_regrown px2.1
      have p1 := cell_regrown px2.2
      have dlt : decide ((k : Int) < (n : Int)) = true := decide_eq_true (by omega)
      have dln : decide (k < n) = true := decide_eq_true hlt
      obtain ⟨r, hr⟩ : ∃ r, lessI (y1, y2) (c, d) = r := ⟨_, rfl⟩
      have LS := Lib.hid (fun d' os => Calls.regrown_of (d := d') (os := os) ((less_any (y1, y2) (c, d) (grow (redrawn wr d') os)).mono fun _ _ h => ⟨by rw [h.1, hr], h.2⟩))
      have HY := Lib.hid (show l[k]? = some (y1, y2) by exact hy)
      have HR := Lib.hid hr
      clear px px2 hy hr
      cases r
      · go_wp2_with fail
        refine wp_region_quiet_below (by kernel_rfl) (by kernel_rfl) ?_
        repeat (go_big_quiet_step (first | (with_reducible exact LS.out _ _)))
        refine wpQuiet_nil ?_
        intro _ hw'
        obtain ⟨⟨dq, osq⟩, hw''⟩ := hw'
        subst hw''
        have Z6 := below_regrown wr dq osq
        have HF := Lib.hid (fun v12 v13 v14 v15 v16 v17 v18 v19 v20 v21 v22 v23 v24 v25 v26 v27 v28 => HQ.out (grow (redrawn wr dq) osq) v12 v13 v14 v15 v16 v17 v18 v19 v20 v21 v22 v23 v24 v25 v26 v27 v28 (BE.out.trans (Z6.mono BE.out.size)))
        rw [place_is l (c, d) k AL.out (Or.inr ⟨_, HY.out, HR.out⟩)] at HF
        clear ix HQ q0 r0 r1 LS dlt dln p0 p1
        go_wp2
        exact HF.out _ _ _ _ _ _ _ _ _ _ _ _ _ _ _ _ _
      · go_wp2_with fail
        refine wp_region_quiet_below (by kernel_rfl) (by kernel_rfl) ?_
        repeat (go_big_quiet_step (first | (with_reducible exact LS.out _ _)))
        refine wpQuiet_nil ?_
        intro _ hw'
        obtain ⟨⟨dq, osq⟩, hw''⟩ := hw'
        subst hw''
        have Z6 := Lib.hid (below_regrown wr dq osq)
        clear ix q0 r0 r1 LS dlt dln p0 p1
        go_wp2
        go_roundw
        case rel => exact ⟨k + 1, by omega, by go_num, BE.out.trans (Z6.out.mono BE.out.size), fun j y' hj h1 => by
          rcases Nat.lt_or_ge j k with h3 | h3
          · exact AL.out j y' h3 h1
          · obtain rfl : j = k := by omega
            have e1 := HY.out
            rw [h1] at e1
            rw [Option.some.inj e1]
            exact HR.out⟩
        case measure => simp [intOf]; omega
    · obtain rfl : k = n := by omega
      have dlt : decide ((k : Int) < (k : Int)) = false := by simp
      have dln : decide (k < k) = false := by simp
      go_wp2_with fail
      refine wp_region_quiet_below (by kernel_rfl) (by kernel_rfl) ?_
      repeat (go_big_quiet_step (fail))
      refine wpQuiet_nil ?_
      intro _ hw'
      obtain ⟨⟨dq, osq⟩, hw''⟩ := hw'
      subst hw''
      have Z6 := below_regrown wr dq osq
      have HF := Lib.hid (fun v12 v13 v14 v15 v16 v17 v18 v19 v20 v21 v22 v23 v24 v25 v26 v27 v28 => HQ.out (grow (redrawn wr dq) osq) v12 v13 v14 v15 v16 v17 v18 v19 v20 v21 v22 v23 v24 v25 v26 v27 v28 (BE.out.trans (Z6.mono BE.out.size)))
      rw [place_is l (c, d) k AL.out (Or.inl (by simpa using HN.out))] at HF
      clear HQ q0 r0 r1 dlt dln
      go_wp2
      exact HF.out _ _ _ _ _ _ _ _ _ _ _ _ _ _ _ _ _
end Go.Proofs.YtonoadjmglkhaaaGreat.Bk

namespace Go.Proofs.YtonoadjmglkhaaaGreat.Bk
open Go.RowKit Go.Sort Go.Proofs.YtonoadjmglkhaaaGreat Go.Proofs.YtonoadjmglkhaaaGreat.Rw Go.Proofs.YtonoadjmglkhaaaGreat.Nm Go.Proofs.YtonoadjmglkhaaaGreat.Pr

noncomputable def learnB2 : Code := ((Tryz.f11.body.bind (findBlock 2)).getD .skip)
set_option maxRecDepth 100000 in
set_option maxHeartbeats 8000000 in
theorem learn_b2 (Q : Exit → Act → World → Prop) (W : World) (b2 b3 : Nat) (me c d : Int) (y1 y3 y4 y5 p3 q3 : Value) (so : Option Addr) (n sc : Nat) (l : List XAd) (u0 u1 u4 u5 u7 u8 u9 u10 u11 u12 u13 u14 u15 u16 u17 u18 u19 u20 u21 u22 u23 u24 u25 u26 u27 u28 u29 u30 u31 u32 u33 u34 u35 u36 u37 u38 u39 u40 u41 u42 u43 u44 u45 u46 u47 u48 u49 u50 u51 u52 u53 u54 u55 u56 u57 u58 u59 u60 u61 u62 u63 u64 u65 u66 u67 u68 u69 u70 u71 u72 u73 u74 u75 u76 u77 u78 : Value)
    (h2 : Box W b2 #[.int .i64 me, y1, .slice so n sc, y3, y4, y5] 29) (h3 : Box W b3 #[.int .i64 c, .int .i64 d, p3, q3] 42) (hs : RowD W (.slice so n sc) l) (hn : n = l.length) (hm : n ≤ 1000000)
    (hQ : ∀ (wr : World) (v45 v46 v47 v48 v49 v50 v51 v52 v53 v54 v55 v56 v57 v58 v59 v60 v61 v62 : Value), Below W.heap.size W wr → Q .normal ⟨(u0 :: u1 :: .pointer (some ⟨b2, 0, none⟩) :: .pointer (some ⟨b3, 0, none⟩) :: u4 :: u5 :: .int .i64 (placeI (l.map fun y => (y.1, y.2.1)) (c, d) : Nat) :: u7 :: u8 :: u9 :: u10 :: u11 :: u12 :: u13 :: u14 :: u15 :: u16 :: u17 :: u18 :: u19 :: u20 :: u21 :: u22 :: u23 :: u24 :: u25 :: u26 :: u27 :: u28 :: u29 :: u30 :: u31 :: u32 :: u33 :: u34 :: u35 :: u36 :: u37 :: u38 :: u39 :: u40 :: u41 :: u42 :: u43 :: u44 :: v45 :: v46 :: v47 :: v48 :: v49 :: v50 :: v51 :: v52 :: v53 :: v54 :: v55 :: v56 :: v57 :: v58 :: v59 :: v60 :: v61 :: v62 :: u63 :: u64 :: u65 :: u66 :: u67 :: u68 :: u69 :: u70 :: u71 :: u72 :: u73 :: u74 :: u75 :: u76 :: u77 :: u78 :: []).toArray, []⟩ wr) :
    Code.wp Tryz.prog learnB2 Q ⟨(u0 :: u1 :: .pointer (some ⟨b2, 0, none⟩) :: .pointer (some ⟨b3, 0, none⟩) :: u4 :: u5 :: .int .i64 0 :: u7 :: u8 :: u9 :: u10 :: u11 :: u12 :: u13 :: u14 :: u15 :: u16 :: u17 :: u18 :: u19 :: u20 :: u21 :: u22 :: u23 :: u24 :: u25 :: u26 :: u27 :: u28 :: u29 :: u30 :: u31 :: u32 :: u33 :: u34 :: u35 :: u36 :: u37 :: u38 :: u39 :: u40 :: u41 :: u42 :: u43 :: u44 :: u45 :: u46 :: u47 :: u48 :: u49 :: u50 :: u51 :: u52 :: u53 :: u54 :: u55 :: u56 :: u57 :: u58 :: u59 :: u60 :: u61 :: u62 :: u63 :: u64 :: u65 :: u66 :: u67 :: u68 :: u69 :: u70 :: u71 :: u72 :: u73 :: u74 :: u75 :: u76 :: u77 :: u78 :: []).toArray, []⟩ W := by
  have HQ := Lib.hid hQ
  have H2 := Lib.hid h2
  have H3 := Lib.hid h3
  have HS := Lib.hid hs
  have HN := Lib.hid hn
  clear hQ h2 h3 hs hn
  conv => arg 2; whnf
  go_wp2
  go_loopw [6] (fun i wr => ∃ k : Nat, k ≤ n ∧ i = .int .i64 k ∧ Below W.heap.size W wr ∧ ∀ (j : Nat) (y : Id), j < k → (l.map fun y => (y.1, y.2.1))[j]? = some y → lessI y (c, d) = true) (fun i _ => n - (intOf i).toNat)
  case atStart => exact ⟨0, Nat.zero_le _, rfl, Below.refl _ _, fun j y h => by omega⟩
  case round =>
    obtain ⟨k, hk, rfl, hbe, hall⟩ := hrel
    have BE := Lib.hid hbe
    have AL := Lib.hid hall
    clear hbe hall
    have q0 := cell_regrown (show wr.cell? ⟨b2, 2, none⟩ = some (.slice so n sc) from (H2.out.on BE.out).cell 2)
    have r0 := cell_regrown (show wr.cell? ⟨b3, 0, none⟩ = some (.int .i64 c) from (H3.out.on BE.out).cell 0)
    have r1 := cell_regrown (show wr.cell? ⟨b3, 1, none⟩ = some (.int .i64 d) from (H3.out.on BE.out).cell 1)
    have hw3 : IntKind.i64.wrap ((k : Int) + 1) = (k : Int) + 1 := IntWalk.i64_in _ (by omega)
    by_cases hlt : k < n
    · obtain ⟨y, hy⟩ : ∃ y, l[k]? = some y := ⟨_, List.getElem?_eq_getElem (by rw [← HN.out]; exact hlt)⟩
      obtain ⟨p, ix, px⟩ := elD HS.out rfl HN.out.symm hy
      have px2 := px wr BE.out
      obtain ⟨y1, y2, ⟨y3o, y3n, y3c⟩, y4⟩ := y
      simp only at px2
      have p0 := cell_regrown px2.1
      have p1 := cell_regrown px2.2.1
      have dlt : decide ((k : Int) < (n : Int)) = true := decide_eq_true (by omega)
      have dln : decide (k < n) = true := decide_eq_true hlt
      obtain ⟨r, hr⟩ : ∃ r, lessI (y1, y2) (c, d) = r := ⟨_, rfl⟩
      have LS := Lib.hid (fun d' os => Calls.regrown_of (d := d') (os := os) ((less_any (y1, y2) (c, d) (grow (redrawn wr d') os)).mono fun _ _ h => ⟨by rw [h.1, hr], h.2⟩))
      have HY := Lib.hid (show (l.map fun y => (y.1, y.2.1))[k]? = some (y1, y2) by rw [List.getElem?_map, hy]; rfl)
      have HR := Lib.hid hr
      clear px px2 hy hr
      cases r
      · go_wp2_with fail
        refine wp_region_quiet_below (by kernel_rfl) (by kernel_rfl) ?_
        repeat (go_big_quiet_step (first | (with_reducible exact LS.out _ _)))
        refine wpQuiet_nil ?_
        intro _ hw'
        obtain ⟨⟨dq, osq⟩, hw''⟩ := hw'
        subst hw''
        have Z6 := below_regrown wr dq osq
        have HF := Lib.hid (fun v45 v46 v47 v48 v49 v50 v51 v52 v53 v54 v55 v56 v57 v58 v59 v60 v61 v62 => HQ.out (grow (redrawn wr dq) osq) v45 v46 v47 v48 v49 v50 v51 v52 v53 v54 v55 v56 v57 v58 v59 v60 v61 v62 (BE.out.trans (Z6.mono BE.out.size)))
        rw [place_is (l.map fun y => (y.1, y.2.1)) (c, d) k AL.out (Or.inr ⟨_, HY.out, HR.out⟩)] at HF
        clear ix HQ q0 r0 r1 LS dlt dln p0 p1
        go_wp2
        exact HF.out _ _ _ _ _ _ _ _ _ _ _ _ _ _ _ _ _ _
      · go_wp2_with fail
        refine wp_region_quiet_below (by kernel_rfl) (by kernel_rfl) ?_
        repeat (go_big_quiet_step (first | (with_reducible exact LS.out _ _)))
        refine wpQuiet_nil ?_
        intro _ hw'
        obtain ⟨⟨dq, osq⟩, hw''⟩ := hw'
        subst hw''
        have Z6 := Lib.hid (below_regrown wr dq osq)
        clear ix q0 r0 r1 LS dlt dln p0 p1
        go_wp2
        go_roundw
        case rel => exact ⟨k + 1, by omega, by go_num, BE.out.trans (Z6.out.mono BE.out.size), fun j y' hj h1 => by
          rcases Nat.lt_or_ge j k with h3 | h3
          · exact AL.out j y' h3 h1
          · obtain rfl : j = k := by omega
            have e1 := HY.out
            rw [h1] at e1
            rw [Option.some.inj e1]
            exact HR.out⟩
        case measure => simp [intOf]; omega
    · obtain rfl : k = n := by omega
      have dlt : decide ((k : Int) < (k : Int)) = false := by simp
      have dln : decide (k < k) = false := by simp
      go_wp2_with fail
      refine wp_region_quiet_below (by kernel_rfl) (by kernel_rfl) ?_
      repeat (go_big_quiet_step (fail))
      refine wpQuiet_nil ?_
      intro _ hw'
      obtain ⟨⟨dq, osq⟩, hw''⟩ := hw'
      subst hw''
      have Z6 := below_regrown wr dq osq
      have HF := Lib.hid (fun v45 v46 v47 v48 v49 v50 v51 v52 v53 v54 v55 v56 v57 v58 v59 v60 v61 v62 => HQ.out (grow (redrawn wr dq) osq) v45 v46 v47 v48 v49 v50 v51 v52 v53 v54 v55 v56 v57 v58 v59 v60 v61 v62 (BE.out.trans (Z6.mono BE.out.size)))
      rw [place_is (l.map fun y => (y.1, y.2.1)) (c, d) k AL.out (Or.inl (by simpa using HN.out))] at HF
      clear HQ q0 r0 r1 dlt dln
      go_wp2
      exact HF.out _ _ _ _ _ _ _ _ _ _ _ _ _ _ _ _ _ _
end Go.Proofs.YtonoadjmglkhaaaGreat.Bk
