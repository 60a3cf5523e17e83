/-
  place and branch of package subs. Conditions: the entries rise; at most a thousand of them.
-/
import Derived.Test.YtncogjpmboglhaaQ036
namespace Go.Proofs.Ytncogjpmboglhaa.Sb
open Go.RowKit Go.Sort Go.Proofs.Ytncogjpmboglhaa Go.Proofs.Ytncogjpmboglhaa.Rw Go.Proofs.Ytncogjpmboglhaa.Nm Go.Proofs.Ytncogjpmboglhaa.Pr Go.Proofs.Ytncogjpmboglhaa.Bk Go.Proofs.Ytncogjpmboglhaa.Av

theorem sl_len {α : Type} {E : Ek α} {W : World} {so : Option Addr} {sn sc : Nat} {l : List α} (h : Row E W (.slice so sn sc) l) : l.length = sn := by
  obtain ⟨ao, ac, hv⟩ := h.len
  simp at hv
  exact hv.2.1.symm
theorem all2_key {W : World} {l : List XEn} {m : List En} (h : All2 (EnIn W) l m) {i : Nat} {y : XEn} (hy : l[i]? = some y) : ∃ e, m[i]? = some e ∧ keyN y = keyE e ∧ EnIn W y e := by
  have hlt := (List.getElem?_eq_some_iff.1 hy).1
  obtain ⟨e, he⟩ : ∃ e, m[i]? = some e := ⟨_, List.getElem?_eq_getElem (by rw [← h.len]; exact hlt)⟩
  obtain ⟨y', hy', hx⟩ := h.at i e he
  rw [hy] at hy'
  obtain rfl := Option.some.inj hy'
  exact ⟨e, he, Prod.ext hx.1 hx.2.1, hx⟩
theorem rise_less {m : List En} (hr : RiseE m) {i j : Nat} {x y : En} (hij : i < j) (hx : m[i]? = some x) (hy : m[j]? = some y) : cEn x y < 0 := by
  obtain ⟨h1, rfl⟩ := List.getElem?_eq_some_iff.1 hx
  obtain ⟨h2, rfl⟩ := List.getElem?_eq_some_iff.1 hy
  exact List.pairwise_iff_getElem.1 hr i j h1 h2 hij
theorem place_le (l : List (XID × XID)) (x : XID × XID) : placeP l x ≤ l.length := (List.takeWhile_sublist _).length_le
/-- Behind the place nothing is ahead. -/
theorem place_hi {m : List En} (hr : RiseE m) (x : XID × XID) {i : Nat} {e : En} (hi : placeP (m.map keyE) x ≤ i) (he : m[i]? = some e) : lessP (keyE e) x = false := by
  have hlt := (List.getElem?_eq_some_iff.1 he).1
  obtain ⟨z, hz⟩ : ∃ z, m[placeP (m.map keyE) x]? = some z := ⟨_, List.getElem?_eq_getElem (by omega)⟩
  have h0 := place_not (m.map keyE) x (keyE z) (by rw [List.getElem?_map, hz]; rfl)
  rcases Nat.lt_or_ge (placeP (m.map keyE) x) i with h | h
  · have h1 := rise_less hr h hz he
    cases hq : lessP (keyE e) x with
    | false => rfl
    | true =>
      rw [← lessP_iff] at h1
      have h2 : cEn z ⟨x.1, x.2, [], 0, false⟩ < 0 := cEn_tr z e ⟨x.1, x.2, [], 0, false⟩ ((lessP_iff z e).1 h1) ((lessP_iff e ⟨x.1, x.2, [], 0, false⟩).1 hq)
      rw [← lessP_iff] at h2
      rw [show lessP (keyE z) x = true from h2] at h0
      cases h0
  · have e1 : i = placeP (m.map keyE) x := by omega
    rw [e1, hz] at he
    rw [← Option.some.inj he]
    exact h0
set_option maxRecDepth 100000 in
set_option maxHeartbeats 8000000 in
theorem place_any (v : Sl) (l : List XEn) (m : List En) (t s : XID) (w : World) (hv : RowN w (slv v) l) (hA : All2 (EnIn w) l m) (hr : RiseE m) (hl : l.length ≤ 1000) :
    Calls Try.prog 30 #[slv v, idv t, idv s] w fun e w' => e = .returned (.tuple #[.int .i64 (placeP (m.map keyE) (t, s)), .bool (thereE m t s)]) ∧ Below w.heap.size w w' := by
  obtain ⟨so, n, sc⟩ := v
  have hn : l.length = n := sl_len hv
  obtain ⟨c, d⟩ := t
  obtain ⟨g, h⟩ := s
  obtain ⟨k, hk⟩ : ∃ k, placeP (m.map keyE) ((c, d), (g, h)) = k := ⟨_, rfl⟩
  obtain ⟨th, hth⟩ : ∃ k, thereE m (c, d) (g, h) = k := ⟨_, rfl⟩
  have hkn : k ≤ n := by rw [← hk, ← hn, hA.len]; simpa using place_le (m.map keyE) ((c, d), (g, h))
  rw [hk, hth]
  obtain ⟨h0, X, Y, Z⟩ := three_new w #[.slice so n sc] #[.int .i64 c, .int .i64 d] #[.int .i64 g, .int .i64 h] 31 23 23
  have BB := Lib.hid h0
  have HV := Lib.hid (hv.on h0)
  have HA := Lib.hid (hA.mono fun _ _ q => q.on h0)
  have X1 := Lib.hid X
  have Y1 := Lib.hid Y
  have Z1 := Lib.hid Z
  have x0 := X.cell 0
  simp only [List.getElem?_toArray, List.getElem?_cons_zero] at x0
  have HF := Lib.hid (show ∀ i, i < n → ∀ W, Below (((w.alloc (.cells #[.slice so n sc] 31)).alloc (.cells #[.int .i64 c, .int .i64 d] 23)).alloc (.cells #[.int .i64 g, .int .i64 h] 23)).heap.size (((w.alloc (.cells #[.slice so n sc] 31)).alloc (.cells #[.int .i64 c, .int .i64 d] 23)).alloc (.cells #[.int .i64 g, .int .i64 h] 23)) W →
      Calls Try.prog 58 (#[.int .i64 i] ++ #[.pointer (some ⟨w.heap.size, 0, none⟩), .pointer (some ⟨w.heap.size + 1, 0, none⟩), .pointer (some ⟨w.heap.size + 1 + 1, 0, none⟩)]) W fun e w' => e = .returned (.bool ((fun i => match l[i]? with | some y => !lessP (keyN y) ((c, d), (g, h)) | none => true) i)) ∧ Below W.heap.size W w' from fun i hi W hb => by
    obtain ⟨y, hy⟩ : ∃ y, l[i]? = some y := ⟨_, List.getElem?_eq_getElem (by omega)⟩
    refine pl1_any i _ _ _ so n sc l (c, d) (g, h) y _ W (HV.out.on hb) hn hy ?_ (X1.out.on hb) (Y1.out.on hb) (Z1.out.on hb)
    simp only [hy])
  have HLO := Lib.hid (show ∀ i, i < k → (fun i => match l[i]? with | some y => !lessP (keyN y) ((c, d), (g, h)) | none => true) i = false from fun i hi => by
    obtain ⟨y, hy⟩ : ∃ y, l[i]? = some y := ⟨_, List.getElem?_eq_getElem (by omega)⟩
    obtain ⟨e, he, hke, _⟩ := all2_key HA.out hy
    have h1 := take_less (m.map keyE) ((c, d), (g, h)) i (keyE e) (by rw [hk]; exact hi) (by rw [List.getElem?_map, he]; rfl)
    simp only [hy, hke, h1]
    rfl)
  have HHI := Lib.hid (show ∀ i, k ≤ i → i < n → (fun i => match l[i]? with | some y => !lessP (keyN y) ((c, d), (g, h)) | none => true) i = true from fun i hi hi2 => by
    obtain ⟨y, hy⟩ : ∃ y, l[i]? = some y := ⟨_, List.getElem?_eq_getElem (by omega)⟩
    obtain ⟨e, he, hke, _⟩ := all2_key HA.out hy
    have h1 := Sb.place_hi hr ((c, d), (g, h)) (by rw [hk]; exact hi) he
    simp only [hy, hke, h1]
    rfl)
  have HK := Lib.hid hk
  have HT := Lib.hid hth
  have HN := Lib.hid hn
  have ln : n ≤ 1000 := by omega
  clear hv hA h0 X Y Z hk hth hl hn hr
  go_enter Try.func30, Try.ntmps30
  go_wp2_with fail
  generalize ((w.alloc (.cells #[.slice so n sc] 31)).alloc (.cells #[.int .i64 c, .int .i64 d] 23)).alloc (.cells #[.int .i64 g, .int .i64 h] 23) = W at *
  refine (search_any 58 #[.pointer (some ⟨w.heap.size, 0, none⟩), .pointer (some ⟨w.heap.size + 1, 0, none⟩), .pointer (some ⟨w.heap.size + 1 + 1, 0, none⟩)] call_pl n k _ W (by omega) HF.out hkn HLO.out HHI.out).mono ?_
  rintro e1 w1 ⟨rfl, hb⟩
  have BN := Lib.hid (fun dq osq => (BB.out.trans (hb.mono BB.out.size)).trans ((below_regrown w1 dq osq).mono (BB.out.trans (hb.mono BB.out.size)).size))
  have a0 := cell_regrown (show w1.cell? ⟨w.heap.size, 0, none⟩ = some (.slice so n sc) from (X1.out.on hb).cell 0)
  have b0 := cell_regrown (show w1.cell? ⟨w.heap.size + 1, 0, none⟩ = some (.int .i64 c) from (Y1.out.on hb).cell 0)
  have b1 := cell_regrown (show w1.cell? ⟨w.heap.size + 1, 1, none⟩ = some (.int .i64 d) from (Y1.out.on hb).cell 1)
  have c0 := cell_regrown (show w1.cell? ⟨w.heap.size + 1 + 1, 0, none⟩ = some (.int .i64 g) from (Z1.out.on hb).cell 0)
  have c1 := cell_regrown (show w1.cell? ⟨w.heap.size + 1 + 1, 1, none⟩ = some (.int .i64 h) from (Z1.out.on hb).cell 1)
  clear x0 HF HLO HHI
  by_cases hkl : k < n
  · obtain ⟨y, hy⟩ : ∃ y, l[k]? = some y := ⟨_, List.getElem?_eq_getElem (by rw [HN.out]; exact hkl)⟩
    obtain ⟨p, ix, p0, p1, p2, p3, p4, p5, p6⟩ := el_reN HV.out rfl HN.out hy hb
    have TH := Lib.hid (show th = decide (keyN y = ((c, d), (g, h))) from by
      obtain ⟨e, he, hke, _⟩ := all2_key HA.out hy
      rw [← HT.out, thereE, HK.out, he, hke])
    have g4 : decide ((k : Int) < (n : Int)) = true := by simp; omega
    obtain ⟨y1, y2, y3, y4, ⟨yo, yn, yc⟩, y6, y7⟩ := y
    simp only at p0 p1 p2 p3
    clear p4 p5 p6 hb hy
    obtain ⟨r1, hr1⟩ : ∃ r, (y1 == c && y2 == d) = r := ⟨_, rfl⟩
    obtain ⟨r2, hr2⟩ : ∃ r, (y3 == g && y4 == h) = r := ⟨_, rfl⟩
    have e1 := eqId y1 y2 c d r1 hr1
    have e2 := eqId y3 y4 g h r2 hr2
    have R := Lib.hid (show th = (r1 && r2) from by
      rw [TH.out, ← hr1, ← hr2, Bool.eq_iff_iff]
      simp only [decide_eq_true_eq, Bool.and_eq_true, beq_iff_eq, Prod.mk.injEq])
    clear hr1 hr2 TH HT
    cases r1 <;> cases r2
    all_goals
      go_wp2
      refine wp_region_quiet_below (by kernel_rfl) (by kernel_rfl) ?_
      repeat (go_big_quiet_step (fail))
      refine wpQuiet_nil ?_
      intro _ hw'
      obtain ⟨⟨dq, osq⟩, hw''⟩ := hw'
      subst hw''
      go_wp2
      go_ret2
      exact ⟨by rw [R.out]; rfl, BN.out _ _⟩
  · have TH := Lib.hid (show th = false from by
      rw [← HT.out, thereE, HK.out, List.getElem?_eq_none (by rw [← HA.out.len, HN.out]; omega)])
    have g4 : decide ((k : Int) < (n : Int)) = false := by simp; omega
    clear hb HT
    go_wp2
    refine wp_region_quiet_below (by kernel_rfl) (by kernel_rfl) ?_
    repeat (go_big_quiet_step (fail))
    refine wpQuiet_nil ?_
    intro _ hw'
    obtain ⟨⟨dq, osq⟩, hw''⟩ := hw'
    subst hw''
    go_wp2
    go_ret2
    exact ⟨by rw [TH.out]; rfl, BN.out _ _⟩
end Go.Proofs.Ytncogjpmboglhaa.Sb
