/-
  Brokers of broadsidekeep: are two brokers the same? Condition: at most a million constraints at each place, at most 900 of each row.
  What a call of AdvertsPlays leaves: a right broker of three neighbours. No program here.
  Advertisements learned in any order: the broker is the same. No program here.
-/
import Derived.Test.YtonoadjmglkhaaaGreatV035
import Derived.Test.YtonoadjmglkhaaaGreatV034
import Derived.Test.YtonoadjmglkhaaaGreatV028
namespace Go.Proofs.YtonoadjmglkhaaaGreat.Bk
open Go.RowKit Go.Sort Go.Proofs.YtonoadjmglkhaaaGreat Go.Proofs.YtonoadjmglkhaaaGreat.Rw Go.Proofs.YtonoadjmglkhaaaGreat.Nm Go.Proofs.YtonoadjmglkhaaaGreat.Pr

def eqD (x y : Ad) : Bool := eqI x.id y.id && (x.par == y.par && sameC x.p y.p)
def eqW (x y : Ow) : Bool := eqI x.id y.id && sameC x.p y.p
theorem eqD_iff (x y : Ad) : eqD x y = true ↔ x = y := by
  obtain ⟨a, b, c⟩ := x
  obtain ⟨a', b', c'⟩ := y
  simp only [eqD, Bool.and_eq_true, eqI_iff, sameC_iff, beq_iff_eq, Ad.mk.injEq]
  constructor
  · rintro ⟨h1, h2, h3⟩
    exact ⟨h1, h3, h2⟩
  · rintro ⟨h1, h2, h3⟩
    exact ⟨h1, h3, h2⟩
theorem eqW_iff (x y : Ow) : eqW x y = true ↔ x = y := by
  obtain ⟨a, b⟩ := x
  obtain ⟨a', b'⟩ := y
  simp only [eqW, Bool.and_eq_true, eqI_iff, sameC_iff, Ow.mk.injEq]
def sameBr (a b : Br) : Bool := a.me == b.me && (decide (a.near = b.near) && (sameG eqI a.seen b.seen && (decide (a.adv.length = b.adv.length) && (decide (a.own.length = b.own.length) && (sameG eqE a.ent b.ent && (sameG eqD a.adv b.adv && sameG eqW a.own b.own))))))
theorem sameBr_iff (a b : Br) : sameBr a b = true ↔ a = b := by
  obtain ⟨m, n, d, s, e, o⟩ := a
  obtain ⟨m', n', d', s', e', o'⟩ := b
  simp only [sameBr, Bool.and_eq_true, beq_iff_eq, decide_eq_true_eq, sameG_iff eqI_iff, sameG_iff eqE_iff, sameG_iff eqD_iff, sameG_iff eqW_iff, Br.mk.injEq]
  constructor
  · rintro ⟨h1, h2, h3, _, _, h6, h7, h8⟩
    exact ⟨h1, h2, h7, h3, h6, h8⟩
  · rintro ⟨h1, h2, h3, h4, h5, h6⟩
    exact ⟨h1, h2, h4, by rw [h3], by rw [h6], h5, h3, h6⟩
/-- All its predicates are short. -/
def Shr (b : Br) : Prop := (∀ (k : Nat) (a : Ad), b.adv[k]? = some a → a.p.length ≤ 1000000) ∧ (∀ (k : Nat) (e : En), b.ent[k]? = some e → e.p.length ≤ 1000000) ∧ (∀ (k : Nat) (o : Ow), b.own[k]? = some o → o.p.length ≤ 1000000)
set_option maxRecDepth 100000 in
set_option maxHeartbeats 32000000 in
theorem brokers_any (a b : Br) (nv av sv ev ov nv2 av2 sv2 ev2 ov2 : Sl) (w : World) (ha : BrIn w a nv av sv ev ov) (hb : BrIn w b nv2 av2 sv2 ev2 ov2) (sa : Shr a) (sb : Shr b) (fa : Few a) :
    Calls Tryz.prog 16 #[brv a.me nv av sv ev ov, brv b.me nv2 av2 sv2 ev2 ov2] w fun e w' => e = .returned (.bool (sameBr a b)) ∧ Below w.heap.size w w' := by
  obtain ⟨no, nn, nc⟩ := nv
  obtain ⟨ao, an, ac⟩ := av
  obtain ⟨so, sn, sc⟩ := sv
  obtain ⟨eo, en, ec⟩ := ev
  obtain ⟨oo, on_, oc⟩ := ov
  obtain ⟨no2, nn2, nc2⟩ := nv2
  obtain ⟨ao2, an2, ac2⟩ := av2
  obtain ⟨so2, sn2, sc2⟩ := sv2
  obtain ⟨eo2, en2, ec2⟩ := ev2
  obtain ⟨oo2, on_2, oc2⟩ := ov2
  obtain ⟨lDa, hd1, hd2⟩ := ha.adv
  obtain ⟨lDb, hd3, hd4⟩ := hb.adv
  obtain ⟨lEa, he1, he2⟩ := ha.ent
  obtain ⟨lEb, he3, he4⟩ := hb.ent
  obtain ⟨lWa, hw1, hw2⟩ := ha.own
  obtain ⟨lWb, hw3, hw4⟩ := hb.own
  have hl9 : lEa.length ≤ 1000000 := by have := he2.len; have := fa.ent; omega
  have hm9 := fa.adv
  have hn9 := fa.own
  have la9 := hd2.len
  have lo9 := hw2.len
  obtain ⟨q1_, q2_, hq_⟩ := hd1.len
  obtain ⟨rfl, k1, rfl⟩ : ao = q1_ ∧ an = (lDa).length ∧ ac = q2_ := by
    have h_ : Value.slice ao an ac = .slice q1_ (lDa).length q2_ := hq_
    simpa using h_
  clear hq_
  obtain ⟨q1_, q2_, hq_⟩ := hd3.len
  obtain ⟨rfl, k2, rfl⟩ : ao2 = q1_ ∧ an2 = (lDb).length ∧ ac2 = q2_ := by
    have h_ : Value.slice ao2 an2 ac2 = .slice q1_ (lDb).length q2_ := hq_
    simpa using h_
  clear hq_
  obtain ⟨q1_, q2_, hq_⟩ := hw1.len
  obtain ⟨rfl, k3, rfl⟩ : oo = q1_ ∧ on_ = (lWa).length ∧ oc = q2_ := by
    have h_ : Value.slice oo on_ oc = .slice q1_ (lWa).length q2_ := hq_
    simpa using h_
  clear hq_
  obtain ⟨q1_, q2_, hq_⟩ := hw3.len
  obtain ⟨rfl, k4, rfl⟩ : oo2 = q1_ ∧ on_2 = (lWb).length ∧ oc2 = q2_ := by
    have h_ : Value.slice oo2 on_2 oc2 = .slice q1_ (lWb).length q2_ := hq_
    simpa using h_
  clear hq_
  have LDA := Lib.hid k1
  have LDB := Lib.hid k2
  have LWA := Lib.hid k3
  have LWB := Lib.hid k4
  have bnd1 : an ≤ 900 := by omega
  have bnd2 : on_ ≤ 900 := by omega
  have UDA := Lib.hid hd2
  have UDB := Lib.hid hd4
  have UWA := Lib.hid hw2
  have UWB := Lib.hid hw4
  have RDA := Lib.hid hd1
  have RDB := Lib.hid hd3
  have RWA := Lib.hid hw1
  have RWB := Lib.hid hw3
  have SHA := Lib.hid sa
  have SHB := Lib.hid sb
  obtain ⟨h0, h1, h2⟩ := two_new w #[.int .i64 a.me, .slice no nn nc, .slice ao an ac, .slice so sn sc, .slice eo en ec, .slice oo on_ oc] #[.int .i64 b.me, .slice no2 nn2 nc2, .slice ao2 an2 ac2, .slice so2 sn2 sc2, .slice eo2 en2 ec2, .slice oo2 on_2 oc2] 29 29
  obtain ⟨r1, e1⟩ : ∃ r, decide (a.near = b.near) = r := ⟨_, rfl⟩
  obtain ⟨r2, e2⟩ : ∃ r, sameG eqI a.seen b.seen = r := ⟨_, rfl⟩
  obtain ⟨r3, e3⟩ : ∃ r, decide (a.adv.length = b.adv.length) = r := ⟨_, rfl⟩
  obtain ⟨r4, e4⟩ : ∃ r, decide (a.own.length = b.own.length) = r := ⟨_, rfl⟩
  obtain ⟨r5, e5⟩ : ∃ r, sameG eqE a.ent b.ent = r := ⟨_, rfl⟩
  have hR : sameBr a b = (a.me == b.me && (r1 && (r2 && (r3 && (r4 && (r5 && (sameG eqD a.adv b.adv && sameG eqW a.own b.own))))))) := by rw [← e1, ← e2, ← e3, ← e4, ← e5]; rfl
  have CN0 := Lib.hid (fun W (hb_ : Below w.heap.size w W) => sameI (.slice no nn nc) (.slice no2 nn2 nc2) a.near b.near W (ha.near.on hb_) (hb.near.on hb_))
  have CJ0 := Lib.hid (fun W (hb_ : Below w.heap.size w W) => sameJ_any (.slice so sn sc) (.slice so2 sn2 sc2) a.seen b.seen W (ha.seen.on hb_) (hb.seen.on hb_) (by have := fa.seen; omega))
  have CE0 := Lib.hid (fun W (hb_ : Below w.heap.size w W) => entries_any (.slice eo en ec) (.slice eo2 en2 ec2) lEa lEb a.ent b.ent W (he1.on hb_) (he3.on hb_) (he2.mono fun _ _ h => h.on hb_) (he4.mono fun _ _ h => h.on hb_) sa.2.1 sb.2.1 hl9)
  rw [e1] at CN0
  rw [e2] at CJ0
  rw [e5] at CE0
  have E3 := Lib.hid e3
  have E4 := Lib.hid e4
  obtain ⟨me, hme⟩ : ∃ me, me = a.me := ⟨_, rfl⟩
  obtain ⟨me2, hme2⟩ : ∃ me, me = b.me := ⟨_, rfl⟩
  simp only [← hme, ← hme2] at h0 h1 h2 hR ⊢
  obtain ⟨r0, e0⟩ : ∃ r, (me == me2) = r := ⟨_, rfl⟩
  have h0' : (me != me2) = !r0 := by rw [← e0]; rfl
  rw [e0] at hR
  have R := Lib.hid hR
  generalize sameBr a b = rr at *
  have B0 := Lib.hid h0
  have X0 := Lib.hid h1
  have Y0 := Lib.hid h2
  clear h0 h1 h2 ha hb sa sb fa hd1 hd2 hd3 hd4 he1 he2 he3 he4 hw1 hw2 hw3 hw4 hl9 hm9 hn9 la9 lo9 k1 k2 k3 k4 e1 e2 e3 e4 e5 hme hme2 hR
  show Calls Tryz.prog 16 #[.agg #[.int .i64 me, .slice no nn nc, .slice ao an ac, .slice so sn sc, .slice eo en ec, .slice oo on_ oc], .agg #[.int .i64 me2, .slice no2 nn2 nc2, .slice ao2 an2 ac2, .slice so2 sn2 sc2, .slice eo2 en2 ec2, .slice oo2 on_2 oc2]] w _
  go_enter Tryz.func16, Tryz.ntmps16
  go_upto_region 1 with fail
  generalize (w.alloc (.cells #[.int .i64 me, .slice no nn nc, .slice ao an ac, .slice so sn sc, .slice eo en ec, .slice oo on_ oc] 29)).alloc (.cells #[.int .i64 me2, .slice no2 nn2 nc2, .slice ao2 an2 ac2, .slice so2 sn2 sc2, .slice eo2 en2 ec2, .slice oo2 on_2 oc2] 29) = W at *
  have CN := Lib.hid (CN0.out W B0.out)
  clear CN0
  have x_ := X0.out
  have y_ := Y0.out
  have x0 := x_.cell 0
  have x1 := x_.cell 1
  have x2 := x_.cell 2
  have x3 := x_.cell 3
  have x4 := x_.cell 4
  have x5 := x_.cell 5
  have y0 := y_.cell 0
  have y1 := y_.cell 1
  have y2 := y_.cell 2
  have y3 := y_.cell 3
  have y4 := y_.cell 4
  have y5 := y_.cell 5
  simp only [List.getElem?_toArray, List.getElem?_cons_zero, List.getElem?_cons_succ] at x0 x1 x2 x3 x4 x5 y0 y1 y2 y3 y4 y5
  clear x_ y_
  cases r0
  · go_wp2
    go_ret
    exact ⟨ret_b (by rw [R.out]; simp), B0.out⟩
  · go_wp2_with fail
    refine CN.out.mono ?_
    rintro e1 w1 ⟨rfl, hb⟩
    have B1 := Lib.hid (B0.out.trans (hb.mono B0.out.size))
    have X1 := Lib.hid (X0.out.on hb)
    have Y1 := Lib.hid (Y0.out.on hb)
    clear hb CN x0 x1 x2 x3 x4 x5 y0 y1 y2 y3 y4 y5
    have x_ := X1.out
    have y_ := Y1.out
    have x0 := x_.cell 0
    have x1 := x_.cell 1
    have x2 := x_.cell 2
    have x3 := x_.cell 3
    have x4 := x_.cell 4
    have x5 := x_.cell 5
    have y0 := y_.cell 0
    have y1 := y_.cell 1
    have y2 := y_.cell 2
    have y3 := y_.cell 3
    have y4 := y_.cell 4
    have y5 := y_.cell 5
    simp only [List.getElem?_toArray, List.getElem?_cons_zero, List.getElem?_cons_succ] at x0 x1 x2 x3 x4 x5 y0 y1 y2 y3 y4 y5
    clear x_ y_
    cases r1
    · go_wp2
      go_ret
      exact ⟨ret_b (by rw [R.out]; simp), B1.out⟩
    · have CJ := Lib.hid (CJ0.out w1 B1.out)
      go_wp2_with fail
      refine CJ.out.mono ?_
      rintro e2 w2 ⟨rfl, hb⟩
      have B2 := Lib.hid (B1.out.trans (hb.mono B1.out.size))
      have X2 := Lib.hid (X1.out.on hb)
      have Y2 := Lib.hid (Y1.out.on hb)
      clear hb CJ x0 x1 x2 x3 x4 x5 y0 y1 y2 y3 y4 y5
      have x_ := X2.out
      have y_ := Y2.out
      have x0 := x_.cell 0
      have x1 := x_.cell 1
      have x2 := x_.cell 2
      have x3 := x_.cell 3
      have x4 := x_.cell 4
      have x5 := x_.cell 5
      have y0 := y_.cell 0
      have y1 := y_.cell 1
      have y2 := y_.cell 2
      have y3 := y_.cell 3
      have y4 := y_.cell 4
      have y5 := y_.cell 5
      simp only [List.getElem?_toArray, List.getElem?_cons_zero, List.getElem?_cons_succ] at x0 x1 x2 x3 x4 x5 y0 y1 y2 y3 y4 y5
      clear x_ y_
      cases r2
      · go_wp2
        go_ret
        exact ⟨ret_b (by rw [R.out]; simp), B2.out⟩
      · by_cases hA : an = an2
        · subst hA
          have k3 : r3 = true := by rw [← E3.out]; exact decide_eq_true (by rw [← UDA.out.len, ← UDB.out.len]; have := LDA.out; have := LDB.out; omega)
          subst k3
          by_cases hO : on_ = on_2
          · subst hO
            have k4 : r4 = true := by rw [← E4.out]; exact decide_eq_true (by rw [← UWA.out.len, ← UWB.out.len]; have := LWA.out; have := LWB.out; omega)
            subst k4
            have CE := Lib.hid (CE0.out w2 B2.out)
            go_wp2_with fail
            refine CE.out.mono ?_
            rintro e4 w4 ⟨rfl, hb⟩
            have B4 := Lib.hid (B2.out.trans (hb.mono B2.out.size))
            have X4 := Lib.hid (X2.out.on hb)
            have Y4 := Lib.hid (Y2.out.on hb)
            clear hb CE x0 x1 x2 x3 x4 x5 y0 y1 y2 y3 y4 y5
            have x_ := X4.out
            have y_ := Y4.out
            have x0 := x_.cell 0
            have x1 := x_.cell 1
            have x2 := x_.cell 2
            have x3 := x_.cell 3
            have x4 := x_.cell 4
            have x5 := x_.cell 5
            have y0 := y_.cell 0
            have y1 := y_.cell 1
            have y2 := y_.cell 2
            have y3 := y_.cell 3
            have y4 := y_.cell 4
            have y5 := y_.cell 5
            simp only [List.getElem?_toArray, List.getElem?_cons_zero, List.getElem?_cons_succ] at x0 x1 x2 x3 x4 x5 y0 y1 y2 y3 y4 y5
            clear x_ y_
            cases r5
            · go_wp2
              go_ret
              exact ⟨ret_b (by rw [R.out]; simp), B4.out⟩
            · go_wp2
              go_loopw [57] (fun i wr => ∃ k : Nat, k ≤ an ∧ i = .int .i64 k ∧ Below w4.heap.size w4 wr ∧ ∀ (j : Nat) (x y : Ad), j < k → a.adv[j]? = some x → b.adv[j]? = some y → eqD x y = true) (fun i _ => an - (intOf i).toNat)
              case atStart => exact ⟨0, Nat.zero_le _, rfl, Below.refl _ _, fun j x y h => by omega⟩
              case round =>
                obtain ⟨k, hk, rfl, hbe, hall⟩ := hrel
                have BE := Lib.hid hbe
                have AL := Lib.hid hall
                have WX := Lib.hid B4.out
                clear hbe hall
                by_cases hlt : k < an
                · obtain ⟨x, hx⟩ : ∃ x, lDa[k]? = some x := ⟨_, List.getElem?_eq_getElem (by have := LDA.out; omega)⟩
                  obtain ⟨y, hy⟩ : ∃ y, lDb[k]? = some y := ⟨_, List.getElem?_eq_getElem (by have := LDB.out; omega)⟩
                  obtain ⟨p, ix, px⟩ := elD (RDA.out.on WX.out) rfl LDA.out.symm hx
                  obtain ⟨q, iy, py⟩ := elD (RDB.out.on WX.out) rfl LDB.out.symm hy
                  obtain ⟨sx, hsx, ix_⟩ := at_left UDA.out k x hx
                  obtain ⟨sy, hsy, iy_⟩ := at_left UDB.out k y hy
                  obtain ⟨x1, x2, ⟨xo, xn, xc⟩, x4⟩ := x
                  obtain ⟨y1, y2, ⟨yo, yn, yc⟩, y4⟩ := y
                  obtain ⟨ta, tp, tf⟩ := sx
                  obtain ⟨va, vp, vf⟩ := sy
                  obtain ⟨rfl, rfl, rx⟩ := ix_
                  obtain ⟨rfl, rfl, ry⟩ := iy_
                  have R0 := show eqD ⟨(x1, x2), tp, x4⟩ ⟨(y1, y2), vp, y4⟩ = (eqI (x1, x2) (y1, y2) && (x4 == y4 && sameC tp vp)) from rfl
                  have b2 := cell_regrown (show wr.cell? ⟨w.heap.size, 2, none⟩ = some (.slice ao an ac) from (X4.out.on BE.out).cell 2)
                  have b3 := cell_regrown (show wr.cell? ⟨w.heap.size + 1, 2, none⟩ = some (.slice ao2 an ac2) from (Y4.out.on BE.out).cell 2)
                  have p0 := cell_regrown (px _ BE.out).1
                  have p1 := cell_regrown (px _ BE.out).2.1
                  have p2 := cell_regrown (px _ BE.out).2.2.1
                  have p3 := cell_regrown (px _ BE.out).2.2.2
                  have q0 := cell_regrown (py _ BE.out).1
                  have q1 := cell_regrown (py _ BE.out).2.1
                  have q2 := cell_regrown (py _ BE.out).2.2.1
                  have q3 := cell_regrown (py _ BE.out).2.2.2
                  have CS := Lib.hid (fun d os => Calls.regrown_of (d := d) (os := os) (sameC_any (.slice xo xn xc) (.slice yo yn yc) tp vp _ (((rx.on WX.out).on BE.out).on (below_regrown wr d os)) (((ry.on WX.out).on BE.out).on (below_regrown wr d os)) (SHA.out.1 _ _ hsx) (SHB.out.1 _ _ hsy)))
                  obtain ⟨s1, e1⟩ : ∃ r, eqI (x1, x2) (y1, y2) = r := ⟨_, rfl⟩
                  obtain ⟨s2, e2⟩ : ∃ r, (x4 == y4) = r := ⟨_, rfl⟩
                  obtain ⟨s3, e3⟩ : ∃ r, sameC tp vp = r := ⟨_, rfl⟩
                  have h1 := neId x1 x2 y1 y2 (!s1) (by rw [← e1]; rfl)
                  have h2 : (x4 != y4) = !s2 := by rw [← e2]; rfl
                  rw [e3] at CS
                  rw [e1, e2, e3] at R0
                  have HX := Lib.hid hsx
                  have HY := Lib.hid hsy
                  have HR0 := Lib.hid R0
                  clear px py hx hy hsx hsy rx ry R0 e1 e2 e3
                  cases s1
                  · have HR := Lib.hid (HR0.out.trans (show _ = false by simp))
                    have RN := Lib.hid (show sameG eqD a.adv b.adv = false from sameG_not a.adv b.adv k _ _ HX.out HY.out HR.out)
                    clear HR0
                    go_wp2
                    refine wp_region_quiet_below (by kernel_rfl) (by kernel_rfl) ?_
                    repeat (go_big_quiet_step (first | (with_reducible exact CS.out _ _)))
                    refine wpQuiet_nil ?_
                    intro _ hw'
                    obtain ⟨⟨dq, osq⟩, hw''⟩ := hw'
                    subst hw''
                    go_wp2
                    go_ret
                    exact ⟨ret_b (by rw [R.out, RN.out]; simp), B4.out.trans ((BE.out.trans ((below_regrown wr dq osq).mono BE.out.size)).mono B4.out.size)⟩
                  · cases s2
                    · have HR := Lib.hid (HR0.out.trans (show _ = false by simp))
                      have RN := Lib.hid (show sameG eqD a.adv b.adv = false from sameG_not a.adv b.adv k _ _ HX.out HY.out HR.out)
                      clear HR0
                      go_wp2
                      refine wp_region_quiet_below (by kernel_rfl) (by kernel_rfl) ?_
                      repeat (go_big_quiet_step (first | (with_reducible exact CS.out _ _)))
                      refine wpQuiet_nil ?_
                      intro _ hw'
                      obtain ⟨⟨dq, osq⟩, hw''⟩ := hw'
                      subst hw''
                      go_wp2
                      go_ret
                      exact ⟨ret_b (by rw [R.out, RN.out]; simp), B4.out.trans ((BE.out.trans ((below_regrown wr dq osq).mono BE.out.size)).mono B4.out.size)⟩
                    · cases s3
                      · have HR := Lib.hid (HR0.out.trans (show _ = false by simp))
                        have RN := Lib.hid (show sameG eqD a.adv b.adv = false from sameG_not a.adv b.adv k _ _ HX.out HY.out HR.out)
                        clear HR0
                        go_wp2
                        refine wp_region_quiet_below (by kernel_rfl) (by kernel_rfl) ?_
                        repeat (go_big_quiet_step (first | (with_reducible exact CS.out _ _)))
                        refine wpQuiet_nil ?_
                        intro _ hw'
                        obtain ⟨⟨dq, osq⟩, hw''⟩ := hw'
                        subst hw''
                        go_wp2
                        go_ret
                        exact ⟨ret_b (by rw [R.out, RN.out]; simp), B4.out.trans ((BE.out.trans ((below_regrown wr dq osq).mono BE.out.size)).mono B4.out.size)⟩
                      · have HR := Lib.hid (HR0.out.trans (show _ = true by simp))
                        clear HR0
                        go_wp2
                        refine wp_region_quiet_below (by kernel_rfl) (by kernel_rfl) ?_
                        repeat (go_big_quiet_step (first | (with_reducible exact CS.out _ _)))
                        refine wpQuiet_nil ?_
                        intro _ hw'
                        obtain ⟨⟨dq, osq⟩, hw''⟩ := hw'
                        subst hw''
                        clear ix iy b2 b3 p0 q0 p1 q1 p2 q2 p3 q3 h1 h2
                        go_wp2
                        go_roundw
                        case rel => exact ⟨k + 1, by omega, by go_num, BE.out.trans ((below_regrown wr dq osq).mono BE.out.size), fun j x' y' hj h1 h2 => by
                          rcases Nat.lt_or_ge j k with h3 | h3
                          · exact AL.out j x' y' h3 h1 h2
                          · obtain rfl : j = k := by omega
                            have e1 := HX.out
                            have e2 := HY.out
                            rw [h1] at e1
                            rw [h2] at e2
                            rw [Option.some.inj e1, Option.some.inj e2]
                            exact HR.out⟩
                        case measure => simp [intOf]; omega
                · have RK := Lib.hid (show sameG eqD a.adv b.adv = true from sameG_all a.adv b.adv (by rw [← UDA.out.len, ← UDB.out.len]; have := LDA.out; have := LDB.out; omega) (fun j a b h1 h2 => AL.out j a b (by have := (List.getElem?_eq_some_iff.1 h1).1; have := UDA.out.len; have := LDA.out; omega) h1 h2))
                  have R := Lib.hid (R.out.trans (by rw [RK.out]))
                  obtain rfl : an = k := by omega
                  obtain ⟨wr1, hwr1⟩ : ∃ x, x = wr := ⟨_, rfl⟩
                  rw [← hwr1] at BE
                  have Br1 := Lib.hid (B4.out.trans (BE.out.mono B4.out.size))
                  have Xr := Lib.hid (X4.out.on BE.out)
                  have Yr := Lib.hid (Y4.out.on BE.out)
                  rw [← hwr1]
                  have z5 := Xr.out.cell 5
                  have zz := Yr.out.cell 5
                  simp only [List.getElem?_toArray, List.getElem?_cons_zero, List.getElem?_cons_succ] at z5 zz
                  clear hwr1 BE AL WX hlt
                  go_wp2
                  go_loopw [108] (fun i wr => ∃ k : Nat, k ≤ on_ ∧ i = .int .i64 k ∧ Below wr1.heap.size wr1 wr ∧ ∀ (j : Nat) (x y : Ow), j < k → a.own[j]? = some x → b.own[j]? = some y → eqW x y = true) (fun i _ => on_ - (intOf i).toNat)
                  case atStart => exact ⟨0, Nat.zero_le _, rfl, Below.refl _ _, fun j x y h => by omega⟩
                  case round =>
                    obtain ⟨k, hk, rfl, hbe, hall⟩ := hrel
                    have BE := Lib.hid hbe
                    have AL := Lib.hid hall
                    have WX := Lib.hid Br1.out
                    clear hbe hall
                    by_cases hlt : k < on_
                    · obtain ⟨x, hx⟩ : ∃ x, lWa[k]? = some x := ⟨_, List.getElem?_eq_getElem (by have := LWA.out; omega)⟩
                      obtain ⟨y, hy⟩ : ∃ y, lWb[k]? = some y := ⟨_, List.getElem?_eq_getElem (by have := LWB.out; omega)⟩
                      obtain ⟨p, ix, px⟩ := elW (RWA.out.on WX.out) rfl LWA.out.symm hx
                      obtain ⟨q, iy, py⟩ := elW (RWB.out.on WX.out) rfl LWB.out.symm hy
                      obtain ⟨sx, hsx, ix_⟩ := at_left UWA.out k x hx
                      obtain ⟨sy, hsy, iy_⟩ := at_left UWB.out k y hy
                      obtain ⟨x1, x2, xo, xn, xc⟩ := x
                      obtain ⟨y1, y2, yo, yn, yc⟩ := y
                      obtain ⟨ta, tp⟩ := sx
                      obtain ⟨va, vp⟩ := sy
                      obtain ⟨rfl, rx⟩ := ix_
                      obtain ⟨rfl, ry⟩ := iy_
                      have R0 := show eqW ⟨(x1, x2), tp⟩ ⟨(y1, y2), vp⟩ = (eqI (x1, x2) (y1, y2) && sameC tp vp) from rfl
                      have b2 := cell_regrown (show wr.cell? ⟨w.heap.size, 5, none⟩ = some (.slice oo on_ oc) from (Xr.out.on BE.out).cell 5)
                      have b3 := cell_regrown (show wr.cell? ⟨w.heap.size + 1, 5, none⟩ = some (.slice oo2 on_ oc2) from (Yr.out.on BE.out).cell 5)
                      have p0 := cell_regrown (px _ BE.out).1
                      have p1 := cell_regrown (px _ BE.out).2.1
                      have p2 := cell_regrown (px _ BE.out).2.2
                      have q0 := cell_regrown (py _ BE.out).1
                      have q1 := cell_regrown (py _ BE.out).2.1
                      have q2 := cell_regrown (py _ BE.out).2.2
                      have CS := Lib.hid (fun d os => Calls.regrown_of (d := d) (os := os) (sameC_any (.slice xo xn xc) (.slice yo yn yc) tp vp _ (((rx.on WX.out).on BE.out).on (below_regrown wr d os)) (((ry.on WX.out).on BE.out).on (below_regrown wr d os)) (SHA.out.2.2 _ _ hsx) (SHB.out.2.2 _ _ hsy)))
                      obtain ⟨s1, e1⟩ : ∃ r, eqI (x1, x2) (y1, y2) = r := ⟨_, rfl⟩
                      obtain ⟨s3, e3⟩ : ∃ r, sameC tp vp = r := ⟨_, rfl⟩
                      have h1 := neId x1 x2 y1 y2 (!s1) (by rw [← e1]; rfl)
                      rw [e3] at CS
                      rw [e1, e3] at R0
                      have HX := Lib.hid hsx
                      have HY := Lib.hid hsy
                      have HR0 := Lib.hid R0
                      clear px py hx hy hsx hsy rx ry R0 e1 e3
                      cases s1
                      · have HR := Lib.hid (HR0.out.trans (show _ = false by simp))
                        have RN := Lib.hid (show sameG eqW a.own b.own = false from sameG_not a.own b.own k _ _ HX.out HY.out HR.out)
                        clear HR0
                        go_wp2
                        refine wp_region_quiet_below (by kernel_rfl) (by kernel_rfl) ?_
                        repeat (go_big_quiet_step (first | (with_reducible exact CS.out _ _)))
                        refine wpQuiet_nil ?_
                        intro _ hw'
                        obtain ⟨⟨dq, osq⟩, hw''⟩ := hw'
                        subst hw''
                        go_wp2
                        go_ret
                        exact ⟨ret_b (by rw [R.out, RN.out]; simp), Br1.out.trans ((BE.out.trans ((below_regrown wr dq osq).mono BE.out.size)).mono Br1.out.size)⟩
                      · cases s3
                        · have HR := Lib.hid (HR0.out.trans (show _ = false by simp))
                          have RN := Lib.hid (show sameG eqW a.own b.own = false from sameG_not a.own b.own k _ _ HX.out HY.out HR.out)
                          clear HR0
                          go_wp2
                          refine wp_region_quiet_below (by kernel_rfl) (by kernel_rfl) ?_
                          repeat (go_big_quiet_step (first | (with_reducible exact CS.out _ _)))
                          refine wpQuiet_nil ?_
                          intro _ hw'
                          obtain ⟨⟨dq, osq⟩, hw''⟩ := hw'
                          subst hw''
                          go_wp2
                          go_ret
                          exact ⟨ret_b (by rw [R.out, RN.out]; simp), Br1.out.trans ((BE.out.trans ((below_regrown wr dq osq).mono BE.out.size)).mono Br1.out.size)⟩
                        · have HR := Lib.hid (HR0.out.trans (show _ = true by simp))
                          clear HR0
                          go_wp2
                          refine wp_region_quiet_below (by kernel_rfl) (by kernel_rfl) ?_
                          repeat (go_big_quiet_step (first | (with_reducible exact CS.out _ _)))
                          refine wpQuiet_nil ?_
                          intro _ hw'
                          obtain ⟨⟨dq, osq⟩, hw''⟩ := hw'
                          subst hw''
                          clear ix iy b2 b3 p0 q0 p1 q1 p2 q2 h1
                          go_wp2
                          go_roundw
                          case rel => exact ⟨k + 1, by omega, by go_num, BE.out.trans ((below_regrown wr dq osq).mono BE.out.size), fun j x' y' hj h1 h2 => by
                            rcases Nat.lt_or_ge j k with h3 | h3
                            · exact AL.out j x' y' h3 h1 h2
                            · obtain rfl : j = k := by omega
                              have e1 := HX.out
                              have e2 := HY.out
                              rw [h1] at e1
                              rw [h2] at e2
                              rw [Option.some.inj e1, Option.some.inj e2]
                              exact HR.out⟩
                          case measure => simp [intOf]; omega
                    · have RK := Lib.hid (show sameG eqW a.own b.own = true from sameG_all a.own b.own (by rw [← UWA.out.len, ← UWB.out.len]; have := LWA.out; have := LWB.out; omega) (fun j a b h1 h2 => AL.out j a b (by have := (List.getElem?_eq_some_iff.1 h1).1; have := UWA.out.len; have := LWA.out; omega) h1 h2))
                      have R := Lib.hid (R.out.trans (by rw [RK.out]))
                      obtain rfl : on_ = k := by omega
                      go_wp2
                      go_ret
                      exact ⟨ret_b (by rw [R.out]; simp), Br1.out.trans (BE.out.mono Br1.out.size)⟩
          · have k4 : r4 = false := by rw [← E4.out]; exact decide_eq_false (by rw [← UWA.out.len, ← UWB.out.len]; have := LWA.out; have := LWB.out; omega)
            subst k4
            have n1 : ((on_ : Int) != (on_2 : Int)) = true := by simp; omega
            have n2 : ((on_ : Int) == (on_2 : Int)) = false := by simp; omega
            go_wp2
            go_ret
            exact ⟨ret_b (by rw [R.out]; simp), B2.out⟩
        · have k3 : r3 = false := by rw [← E3.out]; exact decide_eq_false (by rw [← UDA.out.len, ← UDB.out.len]; have := LDA.out; have := LDB.out; omega)
          subst k3
          have n1 : ((an : Int) != (an2 : Int)) = true := by simp; omega
          have n2 : ((an : Int) == (an2 : Int)) = false := by simp; omega
          go_wp2
          go_ret
          exact ⟨ret_b (by rw [R.out]; simp), B2.out⟩
end Go.Proofs.YtonoadjmglkhaaaGreat.Bk

namespace Go.Proofs.YtonoadjmglkhaaaGreat.Av
open Go.RowKit Go.Sort Go.Proofs.YtonoadjmglkhaaaGreat Go.Proofs.YtonoadjmglkhaaaGreat.Rw Go.Proofs.YtonoadjmglkhaaaGreat.Nm Go.Proofs.YtonoadjmglkhaaaGreat.Pr Go.Proofs.YtonoadjmglkhaaaGreat.Bk

structure PlayI (b : Br) (n : Nat) : Prop where
  ok : OkBr b
  near : b.near = [1, 2, 3]
  ent : b.ent = []
  own : b.own = []
  sn : b.seen.length ≤ n
  an : b.adv.length ≤ n
  fp : ∀ a ∈ b.adv, a.p.length ≤ 900
theorem play_new : PlayI (newB0 0 [1, 2, 3]) 0 :=
  ⟨⟨by simp, List.Pairwise.nil, List.Pairwise.nil, List.Pairwise.nil, List.Pairwise.nil, fun a h => by simp at h, fun a h => by simp at h, fun a h => by simp at h⟩, rfl, rfl, rfl, Nat.le_refl _, Nat.le_refl _, fun a h => by simp at h⟩
theorem play_learn {b : Br} {n : Nat} (h : PlayI b n) (x : XID) (p : List C5) (par : Int) (hp : par = -1 ∨ par = 1 ∨ par = 2 ∨ par = 3) (hq : Wr.rightP p = true) (hl : p.length ≤ 900) : PlayI (learnB b ⟨x, p, par⟩).1 (n + 1) := by
  have hc : comesB b.near par = true := by
    rw [h.near]
    rcases hp with rfl | rfl | rfl | rfl <;> decide
  have H := learn_ok h.ok ⟨x, p, par⟩ hc hq
  by_cases hin : x ∈ b.seen
  · rw [learnB_in (a := ⟨x, p, par⟩) hin] at H ⊢
    exact ⟨H, h.near, h.ent, h.own, Nat.le_succ_of_le h.sn, Nat.le_succ_of_le h.an, h.fp⟩
  · rw [learnB_out (a := ⟨x, p, par⟩) hin] at H ⊢
    refine ⟨H, h.near, h.ent, h.own, Nat.le_trans (Nat.le_of_eq (insAt_len _ _ _)) (Nat.succ_le_succ h.sn), Nat.le_trans (Nat.le_of_eq (insAt_len _ _ _)) (Nat.succ_le_succ h.an), fun a ha => ?_⟩
    rcases (mem_ins _ _ _ _).1 ha with rfl | ha
    · exact hl
    · exact h.fp a ha
theorem play_forget {b : Br} {n : Nat} (h : PlayI b n) (x : XID) (f : Int) : PlayI (forgetF b x f).1 (n + 1) := by
  have H := forget_ok h.ok x f
  have K : PlayI b (n + 1) := ⟨h.ok, h.near, h.ent, h.own, Nat.le_succ_of_le h.sn, Nat.le_succ_of_le h.an, h.fp⟩
  unfold forgetF at H ⊢
  cases hf : findA b.adv x with
  | none => exact K
  | some a =>
    rw [hf] at H
    by_cases hp : a.par = f
    · simp only [hp, if_true] at H ⊢
      exact ⟨H, h.near, by simp [h.ent], h.own, Nat.le_succ_of_le h.sn, Nat.le_succ_of_le (Nat.le_trans (List.length_filter_le _ _) h.an), fun e he => h.fp e (List.mem_filter.1 he).1⟩
    · simp only [hp, if_false] at H ⊢
      exact K
theorem PlayI.few {b : Br} {n : Nat} (h : PlayI b n) (hn : n ≤ 900) : Few b :=
  ⟨by rw [h.near]; decide, Nat.le_trans h.an hn, Nat.le_trans h.sn hn, by rw [h.ent]; decide, by rw [h.own]; decide⟩
theorem PlayI.fewp {b : Br} {n : Nat} (h : PlayI b n) : FewP b :=
  ⟨h.fp, by rw [h.ent]; simp, by rw [h.own]; simp⟩
theorem PlayI.tame {b : Br} {n : Nat} (h : PlayI b n) : TameB b :=
  ⟨fun a ha => tame_right (h.ok.oks a ha).2.2, by rw [h.ent]; simp, by rw [h.own]; simp⟩
theorem FewP.shr {b : Br} (h : FewP b) : Shr b :=
  ⟨fun k a hk => Nat.le_trans (h.adv a (List.mem_of_getElem? hk)) (by decide), fun k a hk => Nat.le_trans (h.ent a (List.mem_of_getElem? hk)) (by decide), fun k a hk => Nat.le_trans (h.own a (List.mem_of_getElem? hk)) (by decide)⟩
theorem FewP.pa {b : Br} (h : FewP b) : ∀ p, (∃ x ∈ b.adv, x.p = p) ∨ (∃ x ∈ b.ent, x.p = p) ∨ (∃ x ∈ b.own, x.p = p) → p.length ≤ 1000000 := by
  rintro p (⟨x, hx, rfl⟩ | ⟨x, hx, rfl⟩ | ⟨x, hx, rfl⟩)
  · exact Nat.le_trans (h.adv x hx) (by decide)
  · exact Nat.le_trans (h.ent x hx) (by decide)
  · exact Nat.le_trans (h.own x hx) (by decide)
theorem same_self (b : Br) : sameBr b b = true := (sameBr_iff b b).2 rfl
/-- The two ways to find agree. -/
theorem find_both {W : World} {l : List XAd} {al : List Ad} (hA : All2 (AdIn W) l al) (x : XID) :
    (findA al x = none ∧ findI (l.map fun y => (y.1, y.2.1)) x = -1) ∨ ∃ (k : Nat) (y : XAd) (a : Ad), findA al x = some a ∧ findI (l.map fun y => (y.1, y.2.1)) x = k ∧ l[k]? = some y ∧ al[k]? = some a ∧ AdIn W y a ∧ a.id = x := by
  rcases find_or l x with h | ⟨k, y, h1, h2⟩
  · refine Or.inl ⟨findA_none fun j a hj => ?_, h⟩
    obtain ⟨z, hz1, hz2⟩ := hA.at j a hj
    rw [← hz2.1]
    exact findI_neg (key := fun y : XAd => (y.1, y.2.1)) h j z hz1
  · have hk : k < al.length := by rw [← hA.len]; exact (List.getElem?_eq_some_iff.1 h2).1
    obtain ⟨z, hz1, hz2⟩ := hA.at k al[k] (List.getElem?_eq_getElem hk)
    obtain rfl : y = z := Option.some.inj (h2.symm.trans hz1)
    obtain ⟨g1, g2⟩ := findI_get h1
    have hy : (y.1, y.2.1) = x := by
      rw [List.getElem?_map, h2] at g1
      exact Option.some.inj g1
    refine Or.inr ⟨k, y, al[k], findA_at (List.getElem?_eq_getElem hk) (by rw [← hz2.1]; exact hy) (fun j a hj ha => ?_), h1, h2, List.getElem?_eq_getElem hk, hz2, by rw [← hz2.1]; exact hy⟩
    obtain ⟨u, hu1, hu2⟩ := hA.at j a ha
    rw [← hu2.1]
    exact g2 j (u.1, u.2.1) hj (by rw [List.getElem?_map, hu1]; rfl)
end Go.Proofs.YtonoadjmglkhaaaGreat.Av

namespace Go.Proofs.YtonoadjmglkhaaaGreat.Av
open Go.RowKit Go.Sort Go.Proofs.YtonoadjmglkhaaaGreat Go.Proofs.YtonoadjmglkhaaaGreat.Rw Go.Proofs.YtonoadjmglkhaaaGreat.Nm Go.Proofs.YtonoadjmglkhaaaGreat.Pr Go.Proofs.YtonoadjmglkhaaaGreat.Bk

/-- A list that rises by a key is told by its members. -/
theorem riseK_uniq {α : Type} {key : α → XID} : ∀ {l m : List α}, RiseK key l → RiseK key m → (∀ x, x ∈ l ↔ x ∈ m) → l = m
  | [], [], _, _, _ => rfl
  | [], y :: m, _, _, h => by have := (h y).2 (by simp); simp at this
  | x :: l, [], _, _, h => by have := (h x).1 (by simp); simp at this
  | x :: l, y :: m, hl, hm, h => by
    have hl' := List.pairwise_cons.1 hl
    have hm' := List.pairwise_cons.1 hm
    have h1 : x = y := by
      rcases List.mem_cons.1 ((h x).1 (by simp)) with e | e
      · exact e
      · rcases List.mem_cons.1 ((h y).2 (by simp)) with e2 | e2
        · exact e2.symm
        · have a1 := hm'.1 x e
          have a2 := hl'.1 y e2
          rw [lessI_asymm a1] at a2
          cases a2
    subst h1
    have nx : x ∉ l := fun hx => by have := hl'.1 x hx; rw [lessI_irr] at this; cases this
    have ny : x ∉ m := fun hx => by have := hm'.1 x hx; rw [lessI_irr] at this; cases this
    rw [riseK_uniq hl'.2 hm'.2 fun z => ⟨fun hz => ?_, fun hz => ?_⟩]
    · rcases List.mem_cons.1 ((h z).1 (List.mem_cons_of_mem _ hz)) with e | e
      · exact absurd (e ▸ hz) nx
      · exact e
    · rcases List.mem_cons.1 ((h z).2 (List.mem_cons_of_mem _ hz)) with e | e
      · exact absurd (e ▸ hz) ny
      · exact e
/-- An advertisement of its own client. -/
def mkA (p : List C5) (x : XID) : Ad := ⟨x, p, -1⟩
/-- A broker that has learned just these. -/
structure OrdI (nr : List Int) (p : List C5) (b : Br) (s : List XID) : Prop where
  ok : OkBr b
  me : b.me = 11
  near : b.near = nr
  few : nr.length ≤ 900
  ent : b.ent = []
  own : b.own = []
  adv : ∀ a, a ∈ b.adv ↔ ∃ x ∈ s, a = mkA p x
  seen : ∀ x, x ∈ b.seen ↔ x ∈ s
  an : b.adv.length = s.length
  sn : b.seen.length = s.length
theorem ord_new {near : List Int} {p : List C5} (h : near.Pairwise (· < ·)) (hl : near.length ≤ 900) : OrdI near p (newB0 11 near) [] :=
  ⟨⟨h, List.Pairwise.nil, List.Pairwise.nil, List.Pairwise.nil, List.Pairwise.nil, fun a h => by simp at h, fun a h => by simp at h, fun a h => by simp at h⟩, rfl, rfl, hl, rfl, rfl, fun a => by simp, fun x => by simp, rfl, rfl⟩
theorem ord_learn {near : List Int} {p : List C5} {b : Br} {s : List XID} (h : OrdI near p b s) (x : XID) (hx : x ∉ s) (hq : Wr.rightP p = true) : OrdI near p (learnB b (mkA p x)).1 (s ++ [x]) := by
  have hc : comesB b.near (-1) = true := by simp [comesB]
  have H := learn_ok h.ok (mkA p x) hc hq
  have hin : x ∉ b.seen := fun q => hx ((h.seen x).1 q)
  rw [learnB_out (a := mkA p x) hin] at H ⊢
  refine ⟨H, h.me, h.near, h.few, h.ent, h.own, fun a => ?_, fun y => ?_, ?_, ?_⟩
  · rw [show (a ∈ insAt b.adv (placeI (b.adv.map Ad.id) (mkA p x).id) (mkA p x)) ↔ _ from mem_ins _ _ _ _, h.adv a]
    constructor
    · rintro (rfl | ⟨y, hy, rfl⟩)
      · exact ⟨x, by simp, rfl⟩
      · exact ⟨y, by simp [hy], rfl⟩
    · rintro ⟨y, hy, rfl⟩
      rcases List.mem_append.1 hy with hy | hy
      · exact Or.inr ⟨y, hy, rfl⟩
      · rw [List.mem_singleton.1 hy]
        exact Or.inl rfl
  · rw [show (y ∈ insAt b.seen (placeI b.seen (mkA p x).id) (mkA p x).id) ↔ _ from mem_ins _ _ _ _, h.seen y, List.mem_append, List.mem_singleton]
    exact Or.comm
  · show (insAt _ _ _).length = _
    rw [insAt_len, h.an, List.length_append]
    rfl
  · show (insAt _ _ _).length = _
    rw [insAt_len, h.sn, List.length_append]
    rfl
theorem ord_same {near : List Int} {p : List C5} {b c : Br} {s t : List XID} (hb : OrdI near p b s) (hc : OrdI near p c t) (h : ∀ x, x ∈ s ↔ x ∈ t) : b = c := by
  obtain ⟨m1, n1, a1, s1, e1, o1⟩ := b
  obtain ⟨m2, n2, a2, s2, e2, o2⟩ := c
  have q1 : m1 = m2 := hb.me.trans hc.me.symm
  have q2 : n1 = n2 := hb.near.trans hc.near.symm
  have q3 : a1 = a2 := riseK_uniq hb.ok.adv hc.ok.adv fun a => by
    rw [hb.adv a, hc.adv a]
    exact ⟨fun ⟨x, hx, e⟩ => ⟨x, (h x).1 hx, e⟩, fun ⟨x, hx, e⟩ => ⟨x, (h x).2 hx, e⟩⟩
  have q4 : s1 = s2 := riseK_uniq (key := id) hb.ok.seen hc.ok.seen fun a => by
    rw [hb.seen a, hc.seen a]
    exact h a
  have q5 : e1 = e2 := hb.ent.trans hc.ent.symm
  have q6 : o1 = o2 := hb.own.trans hc.own.symm
  subst q1 q2 q3 q4 q5 q6
  rfl
theorem OrdI.fewB {near : List Int} {p : List C5} {b : Br} {s : List XID} (h : OrdI near p b s) (hn : s.length ≤ 900) : Few b :=
  ⟨by rw [h.near]; exact h.few, by rw [h.an]; exact hn, by rw [h.sn]; exact hn, by rw [h.ent]; decide, by rw [h.own]; decide⟩
theorem OrdI.fewp {near : List Int} {p : List C5} {b : Br} {s : List XID} (h : OrdI near p b s) (hp : p.length ≤ 900) : FewP b :=
  ⟨fun a ha => by obtain ⟨x, _, rfl⟩ := (h.adv a).1 ha; exact hp, by rw [h.ent]; simp, by rw [h.own]; simp⟩
theorem OrdI.tame {near : List Int} {p : List C5} {b : Br} {s : List XID} (h : OrdI near p b s) : TameB b :=
  ⟨fun a ha => tame_right (h.ok.oks a ha).2.2, by rw [h.ent]; simp, by rw [h.own]; simp⟩
end Go.Proofs.YtonoadjmglkhaaaGreat.Av
