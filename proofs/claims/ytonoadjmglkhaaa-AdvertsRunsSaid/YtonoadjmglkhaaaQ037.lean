/-
  Right's closures, and all of package adverts at its three kinds. Conditions: the rows rise where they are looked up in; at most 900 of each.
  Right of package adverts: do a broker's rows rise and fit together? Conditions: at most 900 of each row; texts below a machine's length.
-/
import Derived.Test.YtonoadjmglkhaaaQ035
import Derived.Test.YtonoadjmglkhaaaQ036
namespace Go.Proofs.Ytonoadjmglkhaaa.Av
open Go.RowKit Go.Sort Go.Proofs.Ytonoadjmglkhaaa Go.Proofs.Ytonoadjmglkhaaa.Rw Go.Proofs.Ytonoadjmglkhaaa.Nm Go.Proofs.Ytonoadjmglkhaaa.Pr Go.Proofs.Ytonoadjmglkhaaa.Bk

set_option maxRecDepth 100000 in
theorem rclD_any (b : Br) (a : Ad) (nv av sv ev ov : Sl) (x : XAd) (b1 : Nat) (w : World) (hb1 : Box w b1 (brcells b.me nv av sv ev ov) 33) (h : BrIn w b nv av sv ev ov) (hx : AdIn w x a) (hf : Few b) (hn : b.near.Pairwise (· ≤ ·)) (hr : RiseI b.seen) (ht : Tame a.p) :
    Calls Try.prog 38 #[valD x, .pointer (some ⟨b1, 0, none⟩)] w fun e w' => e = .returned (.bool (okAd b a)) ∧ Below w.heap.size w w' := by
  obtain ⟨no, nn, nc⟩ := nv
  obtain ⟨ao, an, ac⟩ := av
  obtain ⟨so, sn, sc⟩ := sv
  obtain ⟨eo, en, ec⟩ := ev
  obtain ⟨oo, on_, oc⟩ := ov
  obtain ⟨x1, x2, ⟨xo, xn, xc⟩, x4⟩ := x
  have q := newB w (.cells #[.int .i64 x1, .int .i64 x2, .slice xo xn xc, .int .i64 x4] 26)
  have Y := box_new w #[.int .i64 x1, .int .i64 x2, .slice xo xn xc, .int .i64 x4] 26
  have X := hb1.on q
  have C := Lib.hid (rad_any b a (no, nn, nc) (ao, an, ac) (so, sn, sc) (eo, en, ec) (oo, on_, oc) (x1, x2, (xo, xn, xc), x4) _ (h.on q) (hx.on q) hf hn hr ht)
  generalize okAd b a = r at *
  have B0 := Lib.hid q
  have cx0 := X.cell 0
  have cx1 := X.cell 1
  have cx2 := X.cell 2
  have cx3 := X.cell 3
  have cx4 := X.cell 4
  have cx5 := X.cell 5
  have cy0 := Y.cell 0
  have cy1 := Y.cell 1
  have cy2 := Y.cell 2
  have cy3 := Y.cell 3
  simp only [List.getElem?_toArray, List.getElem?_cons_zero, List.getElem?_cons_succ] at cx0 cx1 cx2 cx3 cx4 cx5 cy0 cy1 cy2 cy3
  clear q X Y h hx hf hn hr ht hb1
  go_enter Try.func38, Try.ntmps38
  go_wp2_with fail
  refine C.out.mono ?_
  rintro e w1 ⟨rfl, hb⟩
  have B1 := Lib.hid (B0.out.trans (hb.mono B0.out.size))
  clear hb
  go_wp2
  go_ret
  exact ⟨rfl, B1.out⟩
set_option maxRecDepth 100000 in
theorem rclN_any (b : Br) (a : En) (nv av sv ev ov : Sl) (x : XEn) (b1 : Nat) (w : World) (hb1 : Box w b1 (brcells b.me nv av sv ev ov) 33) (h : BrIn w b nv av sv ev ov) (hx : EnIn w x a) (hf : Few b) (hn : b.near.Pairwise (· ≤ ·)) (hr : RiseA b.adv) (ht : Tame a.p) :
    Calls Try.prog 41 #[valN x, .pointer (some ⟨b1, 0, none⟩)] w fun e w' => e = .returned (.bool (okEn b a)) ∧ Below w.heap.size w w' := by
  obtain ⟨no, nn, nc⟩ := nv
  obtain ⟨ao, an, ac⟩ := av
  obtain ⟨so, sn, sc⟩ := sv
  obtain ⟨eo, en, ec⟩ := ev
  obtain ⟨oo, on_, oc⟩ := ov
  obtain ⟨x1, x2, x3, x4, ⟨xo, xn, xc⟩, x6, x7⟩ := x
  have q := newB w (.cells #[.int .i64 x1, .int .i64 x2, .int .i64 x3, .int .i64 x4, .slice xo xn xc, .int .i64 x6, .bool x7] 63)
  have Y := box_new w #[.int .i64 x1, .int .i64 x2, .int .i64 x3, .int .i64 x4, .slice xo xn xc, .int .i64 x6, .bool x7] 63
  have X := hb1.on q
  have C := Lib.hid (ren_any b a (no, nn, nc) (ao, an, ac) (so, sn, sc) (eo, en, ec) (oo, on_, oc) (x1, x2, x3, x4, (xo, xn, xc), x6, x7) _ (h.on q) (hx.on q) hf hn hr ht)
  generalize okEn b a = r at *
  have B0 := Lib.hid q
  have cx0 := X.cell 0
  have cx1 := X.cell 1
  have cx2 := X.cell 2
  have cx3 := X.cell 3
  have cx4 := X.cell 4
  have cx5 := X.cell 5
  have cy0 := Y.cell 0
  have cy1 := Y.cell 1
  have cy2 := Y.cell 2
  have cy3 := Y.cell 3
  have cy4 := Y.cell 4
  have cy5 := Y.cell 5
  have cy6 := Y.cell 6
  simp only [List.getElem?_toArray, List.getElem?_cons_zero, List.getElem?_cons_succ] at cx0 cx1 cx2 cx3 cx4 cx5 cy0 cy1 cy2 cy3 cy4 cy5 cy6
  clear q X Y h hx hf hn hr ht hb1
  go_enter Try.func41, Try.ntmps41
  go_wp2_with fail
  refine C.out.mono ?_
  rintro e w1 ⟨rfl, hb⟩
  have B1 := Lib.hid (B0.out.trans (hb.mono B0.out.size))
  clear hb
  go_wp2
  go_ret
  exact ⟨rfl, B1.out⟩
set_option maxRecDepth 100000 in
theorem rclW_any (a : Ow) (x : XOw) (w : World) (hx : OwIn w x a) (ht : Tame a.p) :
    Calls Try.prog 44 #[valW x] w fun e w' => e = .returned (.bool (Wr.rightP a.p)) ∧ Below w.heap.size w w' := by
  obtain ⟨x1, x2, ⟨xo, xn, xc⟩⟩ := x
  have q := newB w (.cells #[.int .i64 x1, .int .i64 x2, .slice xo xn xc] 74)
  have Y := box_new w #[.int .i64 x1, .int .i64 x2, .slice xo xn xc] 74
  have C := Lib.hid (Avp.pright_any (.slice xo xn xc) a.p _ (hx.2.on q) ht)
  generalize Wr.rightP a.p = r at *
  have B0 := Lib.hid q
  have cy0 := Y.cell 0
  have cy1 := Y.cell 1
  have cy2 := Y.cell 2
  simp only [List.getElem?_toArray, List.getElem?_cons_zero, List.getElem?_cons_succ] at cy0 cy1 cy2
  clear q Y hx ht
  go_enter Try.func44, Try.ntmps44
  go_wp2_with fail
  refine C.out.mono ?_
  rintro e w1 ⟨rfl, hb⟩
  have B1 := Lib.hid (B0.out.trans (hb.mono B0.out.size))
  clear hb
  go_wp2
  go_ret
  exact ⟨rfl, B1.out⟩
set_option maxRecDepth 100000 in
set_option maxHeartbeats 8000000 in
theorem allD_any (b1 : Nat) (v : Sl) (l : List XAd) (al : List Ad) (ok : Ad → Bool) (w : World) (hv : Row ED w (slv v) l) (hA : All2 (AdIn w) l al)
    (hC : ∀ (x : XAd) (a : Ad) (W' : World), a ∈ al → Below w.heap.size w W' → AdIn W' x a → Calls Try.prog 38 #[valD x, .pointer (some ⟨b1, 0, none⟩)] W' fun e w' => e = .returned (.bool (ok a)) ∧ Below W'.heap.size W' w') :
    Calls Try.prog 37 #[slv v, .func (.func 38) #[] #[.pointer (some ⟨b1, 0, none⟩)]] w fun e w' => e = .returned (.bool (al.all ok)) ∧ Below w.heap.size w w' := by
  obtain ⟨so, sn, sc⟩ := v
  obtain ⟨ao, ac, hs⟩ := hv.len
  have hs : Value.slice so sn sc = .slice ao l.length ac := hs
  obtain ⟨rfl, rfl, rfl⟩ : so = ao ∧ sn = l.length ∧ sc = ac := by simpa using hs
  have HL := Lib.hid hv
  have HA := Lib.hid hA
  have HC := Lib.hid hC
  have lm := hv.most
  unfold maxLen at lm
  obtain ⟨n, hn⟩ : ∃ n, n = l.length := ⟨_, rfl⟩
  rw [← hn] at HL lm ⊢
  have HN := Lib.hid hn.symm
  obtain ⟨res, hres⟩ : ∃ r, al.all ok = r := ⟨_, rfl⟩
  rw [hres]
  have RS := Lib.hid hres
  clear hv hA hC hs hn hres
  go_enter Try.func37, Try.ntmps37
  go_wp2
  go_loopw [9] (fun i wr => ∃ k : Nat, k ≤ n ∧ i = .int .i64 k ∧ Below w.heap.size w wr ∧ ∀ (j : Nat) (a : Ad), j < k → al[j]? = some a → ok a = true) (fun i _ => n - (intOf i).toNat)
  case atStart => exact ⟨0, Nat.zero_le _, rfl, Below.refl _ _, fun j y h => by omega⟩
  case round =>
    obtain ⟨k, hk, rfl, hbe, hall⟩ := hrel
    have BE := Lib.hid hbe
    have AL := Lib.hid hall
    clear hbe hall
    by_cases hlt : k < n
    · obtain ⟨a, hak⟩ : ∃ a, al[k]? = some a := ⟨_, List.getElem?_eq_getElem (by rw [← HA.out.len, HN.out]; exact hlt)⟩
      obtain ⟨x, hx, hxa⟩ := HA.out.at k a hak
      obtain ⟨p, ix, px⟩ := elD HL.out rfl HN.out hx
      obtain ⟨p0, p1, p2, p3⟩ := px wr BE.out
      have CC := fun W' (q : Below w.heap.size w W') => HC.out x a W' (List.mem_of_getElem? hak) q (hxa.on q)
      have HAK := Lib.hid hak
      obtain ⟨r, hr⟩ : ∃ r, ok a = r := ⟨_, rfl⟩
      rw [hr] at CC
      have HR := Lib.hid hr
      clear hx hak hxa px hr
      obtain ⟨x1, x2, ⟨xo, xn, xc⟩, x4⟩ := x
      simp only at p0 p1 p2 p3
      have NB := newB wr (.cells #[.int .i64 x1, .int .i64 x2, .slice xo xn xc, .int .i64 x4] 26)
      have C := Lib.hid (CC _ (BE.out.trans (NB.mono BE.out.size)))
      have BN := Lib.hid (BE.out.trans (NB.mono BE.out.size))
      have hw3 : IntKind.i64.wrap ((k : Int) + 1) = (k : Int) + 1 := IntWalk.i64_in _ (by omega)
      clear CC NB
      go_wp2_with fail
      refine C.out.mono ?_
      rintro e w1 ⟨rfl, hb⟩
      have B1 := Lib.hid (BN.out.trans (hb.mono BN.out.size))
      clear hb C ix p0 p1 p2 p3
      cases r
      · have R := Lib.hid (show res = false by
          rw [← RS.out]
          exact List.all_eq_false.2 ⟨a, List.mem_of_getElem? HAK.out, by rw [HR.out]; simp⟩)
        go_wp2
        go_ret
        exact ⟨by rw [R.out]; rfl, B1.out⟩
      · go_wp2
        go_roundw
        case rel => exact ⟨k + 1, by omega, by go_num, B1.out, fun j y hj h1 => by
          rcases Nat.lt_or_ge j k with h3 | h3
          · exact AL.out j y h3 h1
          · obtain rfl : j = k := by omega
            have e1 := HAK.out
            rw [h1] at e1
            rw [Option.some.inj e1]
            exact HR.out⟩
        case measure => simp [intOf]; omega
    · obtain rfl : k = n := by omega
      have R := Lib.hid (show res = true by
        rw [← RS.out]
        refine List.all_eq_true.2 fun y hy => ?_
        obtain ⟨j, hj⟩ := List.mem_iff_getElem?.1 hy
        exact AL.out j y (by have := (List.getElem?_eq_some_iff.1 hj).1; have := HA.out.len; have := HN.out; omega) hj)
      go_wp2
      go_ret
      exact ⟨by rw [R.out]; rfl, BE.out⟩
set_option maxRecDepth 100000 in
set_option maxHeartbeats 8000000 in
theorem allN_any (b1 : Nat) (v : Sl) (l : List XEn) (al : List En) (ok : En → Bool) (w : World) (hv : Row EN w (slv v) l) (hA : All2 (EnIn w) l al)
    (hC : ∀ (x : XEn) (a : En) (W' : World), a ∈ al → Below w.heap.size w W' → EnIn W' x a → Calls Try.prog 41 #[valN x, .pointer (some ⟨b1, 0, none⟩)] W' fun e w' => e = .returned (.bool (ok a)) ∧ Below W'.heap.size W' w') :
    Calls Try.prog 40 #[slv v, .func (.func 41) #[] #[.pointer (some ⟨b1, 0, none⟩)]] w fun e w' => e = .returned (.bool (al.all ok)) ∧ Below w.heap.size w w' := by
  obtain ⟨so, sn, sc⟩ := v
  obtain ⟨ao, ac, hs⟩ := hv.len
  have hs : Value.slice so sn sc = .slice ao l.length ac := hs
  obtain ⟨rfl, rfl, rfl⟩ : so = ao ∧ sn = l.length ∧ sc = ac := by simpa using hs
  have HL := Lib.hid hv
  have HA := Lib.hid hA
  have HC := Lib.hid hC
  have lm := hv.most
  unfold maxLen at lm
  obtain ⟨n, hn⟩ : ∃ n, n = l.length := ⟨_, rfl⟩
  rw [← hn] at HL lm ⊢
  have HN := Lib.hid hn.symm
  obtain ⟨res, hres⟩ : ∃ r, al.all ok = r := ⟨_, rfl⟩
  rw [hres]
  have RS := Lib.hid hres
  clear hv hA hC hs hn hres
  go_enter Try.func40, Try.ntmps40
  go_wp2
  go_loopw [9] (fun i wr => ∃ k : Nat, k ≤ n ∧ i = .int .i64 k ∧ Below w.heap.size w wr ∧ ∀ (j : Nat) (a : En), j < k → al[j]? = some a → ok a = true) (fun i _ => n - (intOf i).toNat)
  case atStart => exact ⟨0, Nat.zero_le _, rfl, Below.refl _ _, fun j y h => by omega⟩
  case round =>
    obtain ⟨k, hk, rfl, hbe, hall⟩ := hrel
    have BE := Lib.hid hbe
    have AL := Lib.hid hall
    clear hbe hall
    by_cases hlt : k < n
    · obtain ⟨a, hak⟩ : ∃ a, al[k]? = some a := ⟨_, List.getElem?_eq_getElem (by rw [← HA.out.len, HN.out]; exact hlt)⟩
      obtain ⟨x, hx, hxa⟩ := HA.out.at k a hak
      obtain ⟨p, ix, px⟩ := elN HL.out rfl HN.out hx
      obtain ⟨p0, p1, p2, p3, p4, p5, p6⟩ := px wr BE.out
      have CC := fun W' (q : Below w.heap.size w W') => HC.out x a W' (List.mem_of_getElem? hak) q (hxa.on q)
      have HAK := Lib.hid hak
      obtain ⟨r, hr⟩ : ∃ r, ok a = r := ⟨_, rfl⟩
      rw [hr] at CC
      have HR := Lib.hid hr
      clear hx hak hxa px hr
      obtain ⟨x1, x2, x3, x4, ⟨xo, xn, xc⟩, x6, x7⟩ := x
      simp only at p0 p1 p2 p3 p4 p5 p6
      have NB := newB wr (.cells #[.int .i64 x1, .int .i64 x2, .int .i64 x3, .int .i64 x4, .slice xo xn xc, .int .i64 x6, .bool x7] 63)
      have C := Lib.hid (CC _ (BE.out.trans (NB.mono BE.out.size)))
      have BN := Lib.hid (BE.out.trans (NB.mono BE.out.size))
      have hw3 : IntKind.i64.wrap ((k : Int) + 1) = (k : Int) + 1 := IntWalk.i64_in _ (by omega)
      clear CC NB
      go_wp2_with fail
      refine C.out.mono ?_
      rintro e w1 ⟨rfl, hb⟩
      have B1 := Lib.hid (BN.out.trans (hb.mono BN.out.size))
      clear hb C ix p0 p1 p2 p3 p4 p5 p6
      cases r
      · have R := Lib.hid (show res = false by
          rw [← RS.out]
          exact List.all_eq_false.2 ⟨a, List.mem_of_getElem? HAK.out, by rw [HR.out]; simp⟩)
        go_wp2
        go_ret
        exact ⟨by rw [R.out]; rfl, B1.out⟩
      · go_wp2
        go_roundw
        case rel => exact ⟨k + 1, by omega, by go_num, B1.out, fun j y hj h1 => by
          rcases Nat.lt_or_ge j k with h3 | h3
          · exact AL.out j y h3 h1
          · obtain rfl : j = k := by omega
            have e1 := HAK.out
            rw [h1] at e1
            rw [Option.some.inj e1]
            exact HR.out⟩
        case measure => simp [intOf]; omega
    · obtain rfl : k = n := by omega
      have R := Lib.hid (show res = true by
        rw [← RS.out]
        refine List.all_eq_true.2 fun y hy => ?_
        obtain ⟨j, hj⟩ := List.mem_iff_getElem?.1 hy
        exact AL.out j y (by have := (List.getElem?_eq_some_iff.1 hj).1; have := HA.out.len; have := HN.out; omega) hj)
      go_wp2
      go_ret
      exact ⟨by rw [R.out]; rfl, BE.out⟩
set_option maxRecDepth 100000 in
set_option maxHeartbeats 8000000 in
theorem allW_any (v : Sl) (l : List XOw) (al : List Ow) (ok : Ow → Bool) (w : World) (hv : Row EW w (slv v) l) (hA : All2 (OwIn w) l al)
    (hC : ∀ (x : XOw) (a : Ow) (W' : World), a ∈ al → Below w.heap.size w W' → OwIn W' x a → Calls Try.prog 44 #[valW x] W' fun e w' => e = .returned (.bool (ok a)) ∧ Below W'.heap.size W' w') :
    Calls Try.prog 43 #[slv v, .func (.func 44) #[] #[]] w fun e w' => e = .returned (.bool (al.all ok)) ∧ Below w.heap.size w w' := by
  obtain ⟨so, sn, sc⟩ := v
  obtain ⟨ao, ac, hs⟩ := hv.len
  have hs : Value.slice so sn sc = .slice ao l.length ac := hs
  obtain ⟨rfl, rfl, rfl⟩ : so = ao ∧ sn = l.length ∧ sc = ac := by simpa using hs
  have HL := Lib.hid hv
  have HA := Lib.hid hA
  have HC := Lib.hid hC
  have lm := hv.most
  unfold maxLen at lm
  obtain ⟨n, hn⟩ : ∃ n, n = l.length := ⟨_, rfl⟩
  rw [← hn] at HL lm ⊢
  have HN := Lib.hid hn.symm
  obtain ⟨res, hres⟩ : ∃ r, al.all ok = r := ⟨_, rfl⟩
  rw [hres]
  have RS := Lib.hid hres
  clear hv hA hC hs hn hres
  go_enter Try.func43, Try.ntmps43
  go_wp2
  go_loopw [9] (fun i wr => ∃ k : Nat, k ≤ n ∧ i = .int .i64 k ∧ Below w.heap.size w wr ∧ ∀ (j : Nat) (a : Ow), j < k → al[j]? = some a → ok a = true) (fun i _ => n - (intOf i).toNat)
  case atStart => exact ⟨0, Nat.zero_le _, rfl, Below.refl _ _, fun j y h => by omega⟩
  case round =>
    obtain ⟨k, hk, rfl, hbe, hall⟩ := hrel
    have BE := Lib.hid hbe
    have AL := Lib.hid hall
    clear hbe hall
    by_cases hlt : k < n
    · obtain ⟨a, hak⟩ : ∃ a, al[k]? = some a := ⟨_, List.getElem?_eq_getElem (by rw [← HA.out.len, HN.out]; exact hlt)⟩
      obtain ⟨x, hx, hxa⟩ := HA.out.at k a hak
      obtain ⟨p, ix, px⟩ := elW HL.out rfl HN.out hx
      obtain ⟨p0, p1, p2⟩ := px wr BE.out
      have CC := fun W' (q : Below w.heap.size w W') => HC.out x a W' (List.mem_of_getElem? hak) q (hxa.on q)
      have HAK := Lib.hid hak
      obtain ⟨r, hr⟩ : ∃ r, ok a = r := ⟨_, rfl⟩
      rw [hr] at CC
      have HR := Lib.hid hr
      clear hx hak hxa px hr
      obtain ⟨x1, x2, ⟨xo, xn, xc⟩⟩ := x
      simp only at p0 p1 p2
      have NB := newB wr (.cells #[.int .i64 x1, .int .i64 x2, .slice xo xn xc] 74)
      have C := Lib.hid (CC _ (BE.out.trans (NB.mono BE.out.size)))
      have BN := Lib.hid (BE.out.trans (NB.mono BE.out.size))
      have hw3 : IntKind.i64.wrap ((k : Int) + 1) = (k : Int) + 1 := IntWalk.i64_in _ (by omega)
      clear CC NB
      go_wp2_with fail
      refine C.out.mono ?_
      rintro e w1 ⟨rfl, hb⟩
      have B1 := Lib.hid (BN.out.trans (hb.mono BN.out.size))
      clear hb C ix p0 p1 p2
      cases r
      · have R := Lib.hid (show res = false by
          rw [← RS.out]
          exact List.all_eq_false.2 ⟨a, List.mem_of_getElem? HAK.out, by rw [HR.out]; simp⟩)
        go_wp2
        go_ret
        exact ⟨by rw [R.out]; rfl, B1.out⟩
      · go_wp2
        go_roundw
        case rel => exact ⟨k + 1, by omega, by go_num, B1.out, fun j y hj h1 => by
          rcases Nat.lt_or_ge j k with h3 | h3
          · exact AL.out j y h3 h1
          · obtain rfl : j = k := by omega
            have e1 := HAK.out
            rw [h1] at e1
            rw [Option.some.inj e1]
            exact HR.out⟩
        case measure => simp [intOf]; omega
    · obtain rfl : k = n := by omega
      have R := Lib.hid (show res = true by
        rw [← RS.out]
        refine List.all_eq_true.2 fun y hy => ?_
        obtain ⟨j, hj⟩ := List.mem_iff_getElem?.1 hy
        exact AL.out j y (by have := (List.getElem?_eq_some_iff.1 hj).1; have := HA.out.len; have := HN.out; omega) hj)
      go_wp2
      go_ret
      exact ⟨by rw [R.out]; rfl, BE.out⟩
end Go.Proofs.Ytonoadjmglkhaaa.Av

namespace Go.Proofs.Ytonoadjmglkhaaa.Av
open Go.RowKit Go.Sort Go.Proofs.Ytonoadjmglkhaaa Go.Proofs.Ytonoadjmglkhaaa.Rw Go.Proofs.Ytonoadjmglkhaaa.Nm Go.Proofs.Ytonoadjmglkhaaa.Pr Go.Proofs.Ytonoadjmglkhaaa.Bk

abbrev cAd (a b : Ad) : Int := cmpJ a.id b.id
abbrev cEn (a b : En) : Int := orI (cmpJ a.tree b.tree) (cmpJ a.sub b.sub)
abbrev cOw (a b : Ow) : Int := cmpJ a.id b.id
/-- Is a broker right? -/
def okBr (b : Br) : Bool := riseB cmpI b.near && (riseB cmpJ b.seen && (riseB cAd b.adv && (riseB cEn b.ent && (riseB cOw b.own && (b.adv.all (okAd b) && (b.ent.all (okEn b) && b.own.all (fun o => Wr.rightP o.p)))))))
/-- All predicates' texts are far below a machine's length. -/
structure TameB (b : Br) : Prop where
  adv : ∀ a ∈ b.adv, Tame a.p
  ent : ∀ a ∈ b.ent, Tame a.p
  own : ∀ a ∈ b.own, Tame a.p
theorem riseB_map {α β : Type} {R : α → β → Prop} {c : α → α → Int} {d : β → β → Int} (h : ∀ x a y b, R x a → R y b → c x y = d a b) : ∀ {l : List α} {m : List β}, All2 R l m → riseB c l = riseB d m
  | _, _, .nil => rfl
  | _, _, .cons _ .nil => rfl
  | _, _, .cons x (.cons y t) => by
    have ih := riseB_map h (.cons y t)
    unfold riseB
    rw [h _ _ _ _ x y, ih]
theorem riseB_pair {α : Type} {c : α → α → Int} (ht : ∀ x y z, c x y < 0 → c y z < 0 → c x z < 0) : ∀ {l : List α}, riseB c l = true → l.Pairwise fun x y => c x y < 0
  | [], _ => List.Pairwise.nil
  | [x], _ => List.pairwise_singleton _ _
  | x :: y :: l, h => by
    unfold riseB at h
    rw [Bool.and_eq_true] at h
    have ih := riseB_pair ht h.2
    have hxy : c x y < 0 := of_decide_eq_true h.1
    refine List.pairwise_cons.2 ⟨fun z hz => ?_, ih⟩
    rcases List.mem_cons.1 hz with rfl | hz
    · exact hxy
    · exact ht x y z hxy ((List.pairwise_cons.1 ih).1 z hz)
theorem cmpJ_lt {x y : XID} : cmpJ x y < 0 ↔ lessI x y = true := cmpJ_neg x y
theorem cmpJ_tr (x y z : XID) (h1 : cmpJ x y < 0) (h2 : cmpJ y z < 0) : cmpJ x z < 0 := cmpJ_lt.2 (lessI_trans (cmpJ_lt.1 h1) (cmpJ_lt.1 h2))
theorem near_le {l : List Int} (h : riseB cmpI l = true) : l.Pairwise (· ≤ ·) := by
  have := riseB_pair (c := cmpI) (fun x y z h1 h2 => by rw [cmpI_neg] at *; omega) h
  exact this.imp fun {a b} q => by have := (cmpI_neg a b).1 q; omega
theorem seen_rise {l : List XID} (h : riseB cmpJ l = true) : RiseI l := (riseB_pair cmpJ_tr h).imp fun {_a _b} q => cmpJ_lt.1 q
theorem adv_rise {l : List Ad} (h : riseB cAd l = true) : RiseA l := (riseB_pair (fun x y z => cmpJ_tr x.id y.id z.id) h).imp fun {_a _b} q => cmpJ_lt.1 q
set_option maxRecDepth 100000 in
set_option maxHeartbeats 32000000 in
theorem aright_any (b : Br) (nv av sv ev ov : Sl) (w : World) (h : BrIn w b nv av sv ev ov) (hf : Few b) (ht : TameB b) :
    Calls Try.prog 10 #[brv b.me nv av sv ev ov] w fun e w' => e = .returned (.bool (okBr b)) ∧ Below w.heap.size w w' := by
  obtain ⟨no, nn, nc⟩ := nv
  obtain ⟨ao, an, ac⟩ := av
  obtain ⟨so, sn, sc⟩ := sv
  obtain ⟨eo, en, ec⟩ := ev
  obtain ⟨oo, on_, oc⟩ := ov
  obtain ⟨la, ha1, ha2⟩ := h.adv
  obtain ⟨le, he1, he2⟩ := h.ent
  obtain ⟨lo, ho1, ho2⟩ := h.own
  have q0 := newB w (.cells #[.int .i64 b.me, .slice no nn nc, .slice ao an ac, .slice so sn sc, .slice eo en ec, .slice oo on_ oc] 33)
  have X := box_new w #[.int .i64 b.me, .slice no nn nc, .slice ao an ac, .slice so sn sc, .slice eo en ec, .slice oo on_ oc] 33
  have C1 := fun W' (q : Below w.heap.size w W') => riseI_any (.slice no nn nc) b.near W' (h.near.on q)
  have C2 := fun W' (q : Below w.heap.size w W') => riseJ_any (.slice so sn sc) b.seen W' (h.seen.on q)
  have C3 := fun W' (q : Below w.heap.size w W') => riseD_any (.slice ao an ac) la W' (ha1.on q)
  have C4 := fun W' (q : Below w.heap.size w W') => riseN_any (.slice eo en ec) le W' (he1.on q)
  have C5 := fun W' (q : Below w.heap.size w W') => riseW_any (.slice oo on_ oc) lo W' (ho1.on q)
  rw [riseB_map (R := AdIn w) (d := cAd) (fun x a y b h1 h2 => by rw [cAd, ← h1.1, ← h2.1]) ha2] at C3
  rw [riseB_map (R := EnIn w) (d := cEn) (fun x a y b h1 h2 => by rw [cEn, ← h1.1, ← h2.1, ← h1.2.1, ← h2.2.1]; rfl) he2] at C4
  rw [riseB_map (R := OwIn w) (d := cOw) (fun x a y b h1 h2 => by rw [cOw, ← h1.1, ← h2.1]) ho2] at C5
  have C6 := fun (g1 : riseB cmpI b.near = true) (g2 : riseB cmpJ b.seen = true) W' (q : Below w.heap.size w W') (hx : Box W' w.heap.size #[.int .i64 b.me, .slice no nn nc, .slice ao an ac, .slice so sn sc, .slice eo en ec, .slice oo on_ oc] 33) => allD_any w.heap.size (ao, an, ac) la b.adv (okAd b) W' (ha1.on q) (ha2.mono fun _ _ z => z.on q) (fun x a W2 hm q2 hxa => rclD_any b a (no, nn, nc) (ao, an, ac) (so, sn, sc) (eo, en, ec) (oo, on_, oc) x w.heap.size W2 (hx.on q2) ((h.on q).on q2) hxa hf (near_le g1) (seen_rise g2) (ht.adv a hm))
  have C7 := fun (g1 : riseB cmpI b.near = true) (g3 : riseB cAd b.adv = true) W' (q : Below w.heap.size w W') (hx : Box W' w.heap.size #[.int .i64 b.me, .slice no nn nc, .slice ao an ac, .slice so sn sc, .slice eo en ec, .slice oo on_ oc] 33) => allN_any w.heap.size (eo, en, ec) le b.ent (okEn b) W' (he1.on q) (he2.mono fun _ _ z => z.on q) (fun x a W2 hm q2 hxa => rclN_any b a (no, nn, nc) (ao, an, ac) (so, sn, sc) (eo, en, ec) (oo, on_, oc) x w.heap.size W2 (hx.on q2) ((h.on q).on q2) hxa hf (near_le g1) (adv_rise g3) (ht.ent a hm))
  have C8 := fun W' (q : Below w.heap.size w W') => allW_any (oo, on_, oc) lo b.own (fun o => Wr.rightP o.p) W' (ho1.on q) (ho2.mono fun _ _ z => z.on q) (fun x a W2 hm q2 hxa => rclW_any a x W2 hxa (ht.own a hm))
  have RS := Lib.hid (show okBr b = (riseB cmpI b.near && (riseB cmpJ b.seen && (riseB cAd b.adv && (riseB cEn b.ent && (riseB cOw b.own && (b.adv.all (okAd b) && (b.ent.all (okEn b) && b.own.all (fun o => Wr.rightP o.p)))))))) from rfl)
  generalize okBr b = res at *
  generalize riseB cmpI b.near = r1 at *
  generalize riseB cmpJ b.seen = r2 at *
  generalize riseB cAd b.adv = r3 at *
  generalize riseB cEn b.ent = r4 at *
  generalize riseB cOw b.own = r5 at *
  generalize b.adv.all (okAd b) = r6 at *
  generalize b.ent.all (okEn b) = r7 at *
  generalize b.own.all (fun o => Wr.rightP o.p) = r8 at *
  have C1 := Lib.hid C1
  have C2 := Lib.hid C2
  have C3 := Lib.hid C3
  have C4 := Lib.hid C4
  have C5 := Lib.hid C5
  have C6 := Lib.hid C6
  have C7 := Lib.hid C7
  have C8 := Lib.hid C8
  have B0 := Lib.hid q0
  have X0 := Lib.hid X
  have cx0 := X.cell 0
  have cx1 := X.cell 1
  have cx2 := X.cell 2
  have cx3 := X.cell 3
  have cx4 := X.cell 4
  have cx5 := X.cell 5
  simp only [List.getElem?_toArray, List.getElem?_cons_zero, List.getElem?_cons_succ] at cx0 cx1 cx2 cx3 cx4 cx5
  clear q0 X h hf ht ha1 ha2 he1 he2 ho1 ho2
  go_enter Try.func10, Try.ntmps10
  go_wp2_with fail
  generalize w.alloc (.cells #[.int .i64 b.me, .slice no nn nc, .slice ao an ac, .slice so sn sc, .slice eo en ec, .slice oo on_ oc] 33) = W0 at *
  refine (C1.out _ B0.out).mono ?_
  rintro e1 W1 ⟨rfl, hb⟩
  have B1 := Lib.hid (B0.out.trans (hb.mono B0.out.size))
  have X1 := Lib.hid (X0.out.on hb)
  clear hb cx0 cx1 cx2 cx3 cx4 cx5
  have cx0 := X1.out.cell 0
  have cx1 := X1.out.cell 1
  have cx2 := X1.out.cell 2
  have cx3 := X1.out.cell 3
  have cx4 := X1.out.cell 4
  have cx5 := X1.out.cell 5
  simp only [List.getElem?_toArray, List.getElem?_cons_zero, List.getElem?_cons_succ] at cx0 cx1 cx2 cx3 cx4 cx5
  cases r1
  · go_wp2_with fail
    go_ret
    exact ⟨by rw [RS.out]; rfl, B1.out⟩
  · go_wp2_with fail
    refine (C2.out _ B1.out).mono ?_
    rintro e2 W2 ⟨rfl, hb⟩
    have B2 := Lib.hid (B1.out.trans (hb.mono B1.out.size))
    have X2 := Lib.hid (X1.out.on hb)
    clear hb cx0 cx1 cx2 cx3 cx4 cx5
    have cx0 := X2.out.cell 0
    have cx1 := X2.out.cell 1
    have cx2 := X2.out.cell 2
    have cx3 := X2.out.cell 3
    have cx4 := X2.out.cell 4
    have cx5 := X2.out.cell 5
    simp only [List.getElem?_toArray, List.getElem?_cons_zero, List.getElem?_cons_succ] at cx0 cx1 cx2 cx3 cx4 cx5
    cases r2
    · go_wp2_with fail
      go_ret
      exact ⟨by rw [RS.out]; rfl, B2.out⟩
    · go_wp2_with fail
      refine (C3.out _ B2.out).mono ?_
      rintro e3 W3 ⟨rfl, hb⟩
      have B3 := Lib.hid (B2.out.trans (hb.mono B2.out.size))
      have X3 := Lib.hid (X2.out.on hb)
      clear hb cx0 cx1 cx2 cx3 cx4 cx5
      have cx0 := X3.out.cell 0
      have cx1 := X3.out.cell 1
      have cx2 := X3.out.cell 2
      have cx3 := X3.out.cell 3
      have cx4 := X3.out.cell 4
      have cx5 := X3.out.cell 5
      simp only [List.getElem?_toArray, List.getElem?_cons_zero, List.getElem?_cons_succ] at cx0 cx1 cx2 cx3 cx4 cx5
      cases r3
      · go_wp2_with fail
        go_ret
        exact ⟨by rw [RS.out]; rfl, B3.out⟩
      · go_wp2_with fail
        refine (C4.out _ B3.out).mono ?_
        rintro e4 W4 ⟨rfl, hb⟩
        have B4 := Lib.hid (B3.out.trans (hb.mono B3.out.size))
        have X4 := Lib.hid (X3.out.on hb)
        clear hb cx0 cx1 cx2 cx3 cx4 cx5
        have cx0 := X4.out.cell 0
        have cx1 := X4.out.cell 1
        have cx2 := X4.out.cell 2
        have cx3 := X4.out.cell 3
        have cx4 := X4.out.cell 4
        have cx5 := X4.out.cell 5
        simp only [List.getElem?_toArray, List.getElem?_cons_zero, List.getElem?_cons_succ] at cx0 cx1 cx2 cx3 cx4 cx5
        cases r4
        · go_wp2_with fail
          go_ret
          exact ⟨by rw [RS.out]; rfl, B4.out⟩
        · go_wp2_with fail
          refine (C5.out _ B4.out).mono ?_
          rintro e5 W5 ⟨rfl, hb⟩
          have B5 := Lib.hid (B4.out.trans (hb.mono B4.out.size))
          have X5 := Lib.hid (X4.out.on hb)
          clear hb cx0 cx1 cx2 cx3 cx4 cx5
          have cx0 := X5.out.cell 0
          have cx1 := X5.out.cell 1
          have cx2 := X5.out.cell 2
          have cx3 := X5.out.cell 3
          have cx4 := X5.out.cell 4
          have cx5 := X5.out.cell 5
          simp only [List.getElem?_toArray, List.getElem?_cons_zero, List.getElem?_cons_succ] at cx0 cx1 cx2 cx3 cx4 cx5
          cases r5
          · go_wp2_with fail
            go_ret
            exact ⟨by rw [RS.out]; rfl, B5.out⟩
          · go_wp2_with fail
            refine (C6.out (by trivial) (by trivial) _ B5.out X5.out).mono ?_
            rintro e6 W6 ⟨rfl, hb⟩
            have B6 := Lib.hid (B5.out.trans (hb.mono B5.out.size))
            have X6 := Lib.hid (X5.out.on hb)
            clear hb cx0 cx1 cx2 cx3 cx4 cx5
            have cx0 := X6.out.cell 0
            have cx1 := X6.out.cell 1
            have cx2 := X6.out.cell 2
            have cx3 := X6.out.cell 3
            have cx4 := X6.out.cell 4
            have cx5 := X6.out.cell 5
            simp only [List.getElem?_toArray, List.getElem?_cons_zero, List.getElem?_cons_succ] at cx0 cx1 cx2 cx3 cx4 cx5
            cases r6
            · go_wp2_with fail
              go_ret
              exact ⟨by rw [RS.out]; rfl, B6.out⟩
            · go_wp2_with fail
              refine (C7.out (by trivial) (by trivial) _ B6.out X6.out).mono ?_
              rintro e7 W7 ⟨rfl, hb⟩
              have B7 := Lib.hid (B6.out.trans (hb.mono B6.out.size))
              have X7 := Lib.hid (X6.out.on hb)
              clear hb cx0 cx1 cx2 cx3 cx4 cx5
              have cx0 := X7.out.cell 0
              have cx1 := X7.out.cell 1
              have cx2 := X7.out.cell 2
              have cx3 := X7.out.cell 3
              have cx4 := X7.out.cell 4
              have cx5 := X7.out.cell 5
              simp only [List.getElem?_toArray, List.getElem?_cons_zero, List.getElem?_cons_succ] at cx0 cx1 cx2 cx3 cx4 cx5
              cases r7
              · go_wp2_with fail
                go_ret
                exact ⟨by rw [RS.out]; rfl, B7.out⟩
              · go_wp2_with fail
                refine (C8.out _ B7.out).mono ?_
                rintro e8 W8 ⟨rfl, hb⟩
                have B8 := Lib.hid (B7.out.trans (hb.mono B7.out.size))
                clear hb cx0 cx1 cx2 cx3 cx4 cx5
                go_wp2_with fail
                go_ret
                exact ⟨by rw [RS.out]; rfl, B8.out⟩
end Go.Proofs.Ytonoadjmglkhaaa.Av
