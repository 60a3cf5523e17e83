/-
  Are two of package adverts' own subscriptions alike; slices.EqualFunc over them. Condition: predicates of at most a million constraints.
  Same of package adverts: are two brokers alike? Condition: at most a million constraints at each place, at most 900 of each row.
-/
import Derived.Test.YtonoadjmglkhaaaGreatV037
import Derived.Test.YtonoadjmglkhaaaGreatV036
namespace Go.Proofs.YtonoadjmglkhaaaGreat.Av
open Go.RowKit Go.Sort Go.Proofs.YtonoadjmglkhaaaGreat Go.Proofs.YtonoadjmglkhaaaGreat.Rw Go.Proofs.YtonoadjmglkhaaaGreat.Nm Go.Proofs.YtonoadjmglkhaaaGreat.Pr Go.Proofs.YtonoadjmglkhaaaGreat.Bk

set_option maxRecDepth 100000 in
set_option maxHeartbeats 8000000 in
theorem sameW_any (x y : XOw) (a b : Ow) (w : World) (hx : OwIn w x a) (hy : OwIn w y b) (hl : a.p.length ≤ 1000000) : Calls Tryz.prog 52 #[valW x, valW y] w fun e w' => e = .returned (.bool (eqW a b)) ∧ Below w.heap.size w w' := by
  obtain ⟨x1, x2, ⟨xo, xn, xc⟩⟩ := x
  obtain ⟨y1, y2, ⟨yo, yn, yc⟩⟩ := y
  obtain ⟨gi, gr⟩ := hx
  obtain ⟨ki, kr⟩ := hy
  have ER : eqW a b = ((x1 == y1 && x2 == y2) && sameC a.p b.p) := by
    unfold eqW
    rw [← gi, ← ki]
    rfl
  rw [ER]
  obtain ⟨h0, X, Y⟩ := two_new w #[.int .i64 x1, .int .i64 x2, .slice xo xn xc] #[.int .i64 y1, .int .i64 y2, .slice yo yn yc] 60 60
  have C := Lib.hid (psame_any _ _ a.p b.p _ (gr.on h0) (kr.on h0) hl)
  have cx0 := X.cell 0
  have cx1 := X.cell 1
  have cx2 := X.cell 2
  have cy0 := Y.cell 0
  have cy1 := Y.cell 1
  have cy2 := Y.cell 2
  simp only [List.getElem?_toArray, List.getElem?_cons_zero, List.getElem?_cons_succ] at cx0 cx1 cx2 cy0 cy1 cy2
  have B0 := Lib.hid h0
  clear h0 X Y gr kr hl ER gi ki
  obtain ⟨r0, hr0⟩ : ∃ r, (x1 == y1 && x2 == y2) = r := ⟨_, rfl⟩
  have he0 := eqId x1 x2 y1 y2 r0 hr0
  rw [hr0]
  clear hr0
  obtain ⟨rs, hrs⟩ : ∃ r, sameC a.p b.p = r := ⟨_, rfl⟩
  rw [hrs] at C ⊢
  clear hrs
  go_enter Tryz.func52, Tryz.ntmps52
  cases r0
  · go_wp2_with fail
    go_ret
    exact ⟨rfl, B0.out⟩
  · go_wp2_with fail
    refine C.out.mono ?_
    rintro e w1 ⟨rfl, hb⟩
    have BB := Lib.hid (B0.out.trans (hb.mono B0.out.size))
    clear hb
    go_wp2
    go_ret
    exact ⟨rfl, BB.out⟩
set_option maxRecDepth 100000 in
set_option maxHeartbeats 8000000 in
theorem eqfW_any (v u : Sl) (l m : List XOw) (al bl : List Ow) (w : World) (ha : Row EW w (slv v) l) (hb : Row EW w (slv u) m) (hA : All2 (OwIn w) l al) (hB : All2 (OwIn w) m bl) (hs : ∀ a ∈ al, a.p.length ≤ 1000000) :
    Calls Tryz.prog 51 #[slv v, slv u, .func (.func 52) #[] #[]] w fun e w' => e = .returned (.bool (sameG eqW al bl)) ∧ Below w.heap.size w w' := by
  obtain ⟨so, sn, sc⟩ := v
  obtain ⟨uo, un, uc⟩ := u
  obtain ⟨ao, ac, hv⟩ := ha.len
  have hv : Value.slice so sn sc = .slice ao l.length ac := hv
  obtain ⟨rfl, rfl, rfl⟩ : so = ao ∧ sn = l.length ∧ sc = ac := by simpa using hv
  obtain ⟨ao, ac, hv2⟩ := hb.len
  have hv2 : Value.slice uo un uc = .slice ao m.length ac := hv2
  obtain ⟨rfl, rfl, rfl⟩ : uo = ao ∧ un = m.length ∧ uc = ac := by simpa using hv2
  have RA := Lib.hid ha
  have RB := Lib.hid hb
  have LA := Lib.hid hA
  have LB := Lib.hid hB
  have HS := Lib.hid hs
  have ma := ha.most
  unfold maxLen at ma
  clear ha hb hA hB hs hv hv2
  by_cases hlen : l.length = m.length
  · have HL := Lib.hid hlen
    rw [← hlen] at RB ⊢
    generalize hn : l.length = n at *
    have HN := Lib.hid hn
    clear hlen hn
    go_enter Tryz.func51, Tryz.ntmps51
    go_wp2
    go_loopw [17] (fun i wr => ∃ k : Nat, k ≤ n ∧ i = .int .i64 k ∧ Below w.heap.size w wr ∧ ∀ (j : Nat) (x y : Ow), j < k → al[j]? = some x → bl[j]? = some y → eqW x y = true) (fun i _ => n - (intOf i).toNat)
    case atStart => exact ⟨0, Nat.zero_le _, rfl, Below.refl _ _, fun j x y h => by omega⟩
    case round =>
      obtain ⟨k, hk, rfl, hbe, hall⟩ := hrel
      have BE := Lib.hid hbe
      have AL := Lib.hid hall
      clear hbe hall
      by_cases hlt : k < n
      · obtain ⟨a, hak⟩ : ∃ a, al[k]? = some a := ⟨_, List.getElem?_eq_getElem (by rw [← LA.out.len, HN.out]; exact hlt)⟩
        obtain ⟨b, hbk⟩ : ∃ b, bl[k]? = some b := ⟨_, List.getElem?_eq_getElem (by rw [← LB.out.len, ← HL.out]; exact hlt)⟩
        obtain ⟨x, hx, ix⟩ := LA.out.at k a hak
        obtain ⟨y, hy, iy⟩ := LB.out.at k b hbk
        obtain ⟨p, jx, px⟩ := elW RA.out rfl HN.out hx
        obtain ⟨q, jy, py⟩ := elW RB.out rfl HL.out.symm hy
        obtain ⟨p0, p1, p2⟩ := px wr BE.out
        have hs1 := HS.out a (List.mem_of_getElem? hak)
        have CC := fun W' (h : Below w.heap.size w W') => sameW_any x y a b W' (ix.on h) (iy.on h) hs1
        have HAK := Lib.hid hak
        have HBK := Lib.hid hbk
        clear hx hy hak hbk hs1 px ix iy
        obtain ⟨x1, x2, ⟨xo, xn, xc⟩⟩ := x
        obtain ⟨y1, y2, ⟨yo, yn, yc⟩⟩ := y
        simp only at p0 p1 p2
        have N1 := newB wr (.cells #[.int .i64 x1, .int .i64 x2, .slice xo xn xc] 60)
        have N2 := newB (wr.alloc (.cells #[.int .i64 x1, .int .i64 x2, .slice xo xn xc] 60)) (.cells #[.int .i64 y1, .int .i64 y2, .slice yo yn yc] 60)
        have BN := Lib.hid (BE.out.trans ((N1.trans (N2.mono N1.size)).mono BE.out.size))
        obtain ⟨q0, q1, q2⟩ := py _ (BE.out.trans (N1.mono BE.out.size))
        have hX := (box_new wr #[.int .i64 x1, .int .i64 x2, .slice xo xn xc] 60).on N2
        have hY := box_new (wr.alloc (.cells #[.int .i64 x1, .int .i64 x2, .slice xo xn xc] 60)) #[.int .i64 y1, .int .i64 y2, .slice yo yn yc] 60
        have hsz : (wr.alloc (.cells #[.int .i64 x1, .int .i64 x2, .slice xo xn xc] 60)).heap.size = wr.heap.size + 1 := by simp
        rw [hsz] at hY
        have ex0 := hX.cell 0
        have ex1 := hX.cell 1
        have ex2 := hX.cell 2
        have ey0 := hY.cell 0
        have ey1 := hY.cell 1
        have ey2 := hY.cell 2
        simp only [List.getElem?_toArray, List.getElem?_cons_zero, List.getElem?_cons_succ] at ex0 ex1 ex2 ey0 ey1 ey2
        simp only at q0 q1 q2
        have hw3 : IntKind.i64.wrap ((k : Int) + 1) = (k : Int) + 1 := IntWalk.i64_in _ (by omega)
        have C := Lib.hid (CC _ BN.out)
        obtain ⟨r, hr⟩ : ∃ r, eqW a b = r := ⟨_, rfl⟩
        rw [hr] at C
        have HR := Lib.hid hr
        clear CC hr N1 N2 hX hY hsz py
        go_wp2_with fail
        refine C.out.mono ?_
        rintro e w1 ⟨rfl, hb⟩
        have BB := Lib.hid (BN.out.trans (hb.mono BN.out.size))
        clear hb C p0 p1 p2 q0 q1 q2 ex0 ex1 ex2 ey0 ey1 ey2 jx jy
        cases r
        · have R := Lib.hid (show sameG eqW al bl = false from sameG_not al bl k a b HAK.out HBK.out HR.out)
          go_wp2
          go_ret
          exact ⟨by rw [R.out]; rfl, BB.out⟩
        · go_wp2
          go_roundw
          case rel => exact ⟨k + 1, by omega, by go_num, BB.out, fun j x' y' hj h1 h2 => by
            rcases Nat.lt_or_ge j k with h3 | h3
            · exact AL.out j x' y' h3 h1 h2
            · obtain rfl : j = k := by omega
              have e1 := HAK.out
              have e2 := HBK.out
              rw [h1] at e1
              rw [h2] at e2
              rw [Option.some.inj e1, Option.some.inj e2]
              exact HR.out⟩
          case measure => simp [intOf]; omega
      · obtain rfl : k = n := by omega
        have R := Lib.hid (show sameG eqW al bl = true from sameG_all al bl (by rw [← LA.out.len, ← LB.out.len, HN.out]; exact HL.out) (fun j a b h1 h2 => AL.out j a b (by have := (List.getElem?_eq_some_iff.1 h1).1; have := HN.out; have := LA.out.len; omega) h1 h2))
        go_wp2
        go_ret
        exact ⟨by rw [R.out]; rfl, BE.out⟩
  · have R := Lib.hid (show sameG eqW al bl = false by
      cases h : sameG eqW al bl
      · rfl
      · exact absurd ((LA.out.len.trans (sameG_len _ _ h)).trans LB.out.len.symm) hlen)
    have hne : (((l.length : Nat) : Int) != ((m.length : Nat) : Int)) = true := by simp; omega
    have hne2 : (((l.length : Nat) : Int) == ((m.length : Nat) : Int)) = false := by simp; omega
    clear hlen
    go_enter Tryz.func51, Tryz.ntmps51
    go_wp2
    go_ret
    exact ⟨by rw [R.out]; rfl, Below.refl _ _⟩
end Go.Proofs.YtonoadjmglkhaaaGreat.Av

namespace Go.Proofs.YtonoadjmglkhaaaGreat.Av
open Go.RowKit Go.Sort Go.Proofs.YtonoadjmglkhaaaGreat Go.Proofs.YtonoadjmglkhaaaGreat.Rw Go.Proofs.YtonoadjmglkhaaaGreat.Nm Go.Proofs.YtonoadjmglkhaaaGreat.Pr Go.Proofs.YtonoadjmglkhaaaGreat.Bk

theorem sameBr_chain (a b : Br) : sameBr a b = (a.me == b.me && (sameG eqZ a.near b.near && (sameG eqI a.seen b.seen && (sameG eqD a.adv b.adv && (sameG eqE a.ent b.ent && sameG eqW a.own b.own))))) := by
  rw [Bool.eq_iff_iff, sameBr_iff]
  obtain ⟨m, n, d, s, e, o⟩ := a
  obtain ⟨m', n', d', s', e', o'⟩ := b
  simp only [Bool.and_eq_true, beq_iff_eq, sameG_iff eqZ_iff, sameG_iff eqI_iff, sameG_iff eqE_iff, sameG_iff eqD_iff, sameG_iff eqW_iff, Br.mk.injEq]
  constructor
  · rintro ⟨h1, h2, h3, h4, h5, h6⟩
    exact ⟨h1, h2, h4, h3, h5, h6⟩
  · rintro ⟨h1, h2, h4, h3, h5, h6⟩
    exact ⟨h1, h2, h3, h4, h5, h6⟩
set_option maxRecDepth 100000 in
set_option maxHeartbeats 32000000 in
theorem asame_any (a b : Br) (nv av sv ev ov nv2 av2 sv2 ev2 ov2 : Sl) (w : World) (ha : BrIn w a nv av sv ev ov) (hb : BrIn w b nv2 av2 sv2 ev2 ov2) (fa : Few a) (pa : ∀ p, (∃ x ∈ a.adv, x.p = p) ∨ (∃ x ∈ a.ent, x.p = p) ∨ (∃ x ∈ a.own, x.p = p) → p.length ≤ 1000000) :
    Calls Tryz.prog 17 #[brv a.me nv av sv ev ov, brv b.me nv2 av2 sv2 ev2 ov2] w fun e w' => e = .returned (.bool (sameBr a b)) ∧ Below w.heap.size w w' := by
  obtain ⟨xn, xnn, xnc⟩ := nv
  obtain ⟨xa, xan, xac⟩ := av
  obtain ⟨xs, xsn, xsc⟩ := sv
  obtain ⟨xe, xen, xec⟩ := ev
  obtain ⟨xw, xwn, xwc⟩ := ov
  obtain ⟨yn, ynn, ync⟩ := nv2
  obtain ⟨ya, yan, yac⟩ := av2
  obtain ⟨ys, ysn, ysc⟩ := sv2
  obtain ⟨ye, yen, yec⟩ := ev2
  obtain ⟨yw, ywn, ywc⟩ := ov2
  rw [sameBr_chain]
  obtain ⟨lA, hA1, hA2⟩ := ha.adv
  obtain ⟨lB, hB1, hB2⟩ := hb.adv
  obtain ⟨mA, iA1, iA2⟩ := ha.ent
  obtain ⟨mB, iB1, iB2⟩ := hb.ent
  obtain ⟨kA, jA1, jA2⟩ := ha.own
  obtain ⟨kB, jB1, jB2⟩ := hb.own
  have C1 := fun W' (h : Below w.heap.size w W') => eqI_any (.slice xn xnn xnc) (.slice yn ynn ync) a.near b.near W' (ha.near.on h) (hb.near.on h) (by have := fa.near; omega)
  have C2 := fun W' (h : Below w.heap.size w W') => eqJ_any (.slice xs xsn xsc) (.slice ys ysn ysc) a.seen b.seen W' (ha.seen.on h) (hb.seen.on h) (by have := fa.seen; omega)
  have C3 := fun W' (h : Below w.heap.size w W') => eqfD_any (xa, xan, xac) (ya, yan, yac) lA lB a.adv b.adv W' (hA1.on h) (hB1.on h) (hA2.mono fun _ _ q => q.on h) (hB2.mono fun _ _ q => q.on h) (fun x hx => pa x.p (Or.inl ⟨x, hx, rfl⟩))
  have C4 := fun W' (h : Below w.heap.size w W') => eqfN_any (xe, xen, xec) (ye, yen, yec) mA mB a.ent b.ent W' (iA1.on h) (iB1.on h) (iA2.mono fun _ _ q => q.on h) (iB2.mono fun _ _ q => q.on h) (fun x hx => pa x.p (Or.inr (Or.inl ⟨x, hx, rfl⟩)))
  have C5 := fun W' (h : Below w.heap.size w W') => eqfW_any (xw, xwn, xwc) (yw, ywn, ywc) kA kB a.own b.own W' (jA1.on h) (jB1.on h) (jA2.mono fun _ _ q => q.on h) (jB2.mono fun _ _ q => q.on h) (fun x hx => pa x.p (Or.inr (Or.inr ⟨x, hx, rfl⟩)))
  obtain ⟨r0, hr0⟩ : ∃ r, (a.me == b.me) = r := ⟨_, rfl⟩
  generalize sameG eqZ a.near b.near = r1 at *
  generalize sameG eqI a.seen b.seen = r2 at *
  generalize sameG eqD a.adv b.adv = r3 at *
  generalize sameG eqE a.ent b.ent = r4 at *
  generalize sameG eqW a.own b.own = r5 at *
  rw [hr0]
  obtain ⟨h0, X, Y⟩ := two_new w #[.int .i64 a.me, .slice xn xnn xnc, .slice xa xan xac, .slice xs xsn xsc, .slice xe xen xec, .slice xw xwn xwc] #[.int .i64 b.me, .slice yn ynn ync, .slice ya yan yac, .slice ys ysn ysc, .slice ye yen yec, .slice yw ywn ywc] 29 29
  have B0 := Lib.hid h0
  have X0 := Lib.hid X
  have Y0 := Lib.hid Y
  have C1 := Lib.hid C1
  have C2 := Lib.hid C2
  have C3 := Lib.hid C3
  have C4 := Lib.hid C4
  have C5 := Lib.hid C5
  have cx0 := X.cell 0
  have cx1 := X.cell 1
  have cx2 := X.cell 2
  have cx3 := X.cell 3
  have cx4 := X.cell 4
  have cx5 := X.cell 5
  have cy0 := Y.cell 0
  have cy1 := Y.cell 1
  have cy2 := Y.cell 2
  have cy3 := Y.cell 3
  have cy4 := Y.cell 4
  have cy5 := Y.cell 5
  simp only [List.getElem?_toArray, List.getElem?_cons_zero, List.getElem?_cons_succ] at cx0 cx1 cx2 cx3 cx4 cx5 cy0 cy1 cy2 cy3 cy4 cy5
  clear h0 X Y ha hb fa pa hA1 hA2 hB1 hB2 iA1 iA2 iB1 iB2 jA1 jA2 jB1 jB2
  go_enter Tryz.func17, Tryz.ntmps17
  cases r0
  · go_wp2_with fail
    go_ret
    exact ⟨rfl, B0.out⟩
  · go_wp2_with fail
    generalize (w.alloc (.cells #[.int .i64 a.me, .slice xn xnn xnc, .slice xa xan xac, .slice xs xsn xsc, .slice xe xen xec, .slice xw xwn xwc] 29)).alloc (.cells #[.int .i64 b.me, .slice yn ynn ync, .slice ya yan yac, .slice ys ysn ysc, .slice ye yen yec, .slice yw ywn ywc] 29) = W0 at *
    refine (C1.out _ B0.out).mono ?_
    rintro e1 W1 ⟨rfl, hb⟩
    have B1 := Lib.hid (B0.out.trans (hb.mono B0.out.size))
    have X1 := Lib.hid (X0.out.on hb)
    have Y1 := Lib.hid (Y0.out.on hb)
    clear hb cx0 cx1 cx2 cx3 cx4 cx5 cy0 cy1 cy2 cy3 cy4 cy5
    have cx0 := X1.out.cell 0
    have cx1 := X1.out.cell 1
    have cx2 := X1.out.cell 2
    have cx3 := X1.out.cell 3
    have cx4 := X1.out.cell 4
    have cx5 := X1.out.cell 5
    have cy0 := Y1.out.cell 0
    have cy1 := Y1.out.cell 1
    have cy2 := Y1.out.cell 2
    have cy3 := Y1.out.cell 3
    have cy4 := Y1.out.cell 4
    have cy5 := Y1.out.cell 5
    simp only [List.getElem?_toArray, List.getElem?_cons_zero, List.getElem?_cons_succ] at cx0 cx1 cx2 cx3 cx4 cx5 cy0 cy1 cy2 cy3 cy4 cy5
    cases r1
    · go_wp2_with fail
      go_ret
      exact ⟨rfl, B1.out⟩
    · go_wp2_with fail
      refine (C2.out _ B1.out).mono ?_
      rintro e2 W2 ⟨rfl, hb⟩
      have B2 := Lib.hid (B1.out.trans (hb.mono B1.out.size))
      have X2 := Lib.hid (X1.out.on hb)
      have Y2 := Lib.hid (Y1.out.on hb)
      clear hb cx0 cx1 cx2 cx3 cx4 cx5 cy0 cy1 cy2 cy3 cy4 cy5
      have cx0 := X2.out.cell 0
      have cx1 := X2.out.cell 1
      have cx2 := X2.out.cell 2
      have cx3 := X2.out.cell 3
      have cx4 := X2.out.cell 4
      have cx5 := X2.out.cell 5
      have cy0 := Y2.out.cell 0
      have cy1 := Y2.out.cell 1
      have cy2 := Y2.out.cell 2
      have cy3 := Y2.out.cell 3
      have cy4 := Y2.out.cell 4
      have cy5 := Y2.out.cell 5
      simp only [List.getElem?_toArray, List.getElem?_cons_zero, List.getElem?_cons_succ] at cx0 cx1 cx2 cx3 cx4 cx5 cy0 cy1 cy2 cy3 cy4 cy5
      cases r2
      · go_wp2_with fail
        go_ret
        exact ⟨rfl, B2.out⟩
      · go_wp2_with fail
        refine (C3.out _ B2.out).mono ?_
        rintro e3 W3 ⟨rfl, hb⟩
        have B3 := Lib.hid (B2.out.trans (hb.mono B2.out.size))
        have X3 := Lib.hid (X2.out.on hb)
        have Y3 := Lib.hid (Y2.out.on hb)
        clear hb cx0 cx1 cx2 cx3 cx4 cx5 cy0 cy1 cy2 cy3 cy4 cy5
        have cx0 := X3.out.cell 0
        have cx1 := X3.out.cell 1
        have cx2 := X3.out.cell 2
        have cx3 := X3.out.cell 3
        have cx4 := X3.out.cell 4
        have cx5 := X3.out.cell 5
        have cy0 := Y3.out.cell 0
        have cy1 := Y3.out.cell 1
        have cy2 := Y3.out.cell 2
        have cy3 := Y3.out.cell 3
        have cy4 := Y3.out.cell 4
        have cy5 := Y3.out.cell 5
        simp only [List.getElem?_toArray, List.getElem?_cons_zero, List.getElem?_cons_succ] at cx0 cx1 cx2 cx3 cx4 cx5 cy0 cy1 cy2 cy3 cy4 cy5
        cases r3
        · go_wp2_with fail
          go_ret
          exact ⟨rfl, B3.out⟩
        · go_wp2_with fail
          refine (C4.out _ B3.out).mono ?_
          rintro e4 W4 ⟨rfl, hb⟩
          have B4 := Lib.hid (B3.out.trans (hb.mono B3.out.size))
          have X4 := Lib.hid (X3.out.on hb)
          have Y4 := Lib.hid (Y3.out.on hb)
          clear hb cx0 cx1 cx2 cx3 cx4 cx5 cy0 cy1 cy2 cy3 cy4 cy5
          have cx0 := X4.out.cell 0
          have cx1 := X4.out.cell 1
          have cx2 := X4.out.cell 2
          have cx3 := X4.out.cell 3
          have cx4 := X4.out.cell 4
          have cx5 := X4.out.cell 5
          have cy0 := Y4.out.cell 0
          have cy1 := Y4.out.cell 1
          have cy2 := Y4.out.cell 2
          have cy3 := Y4.out.cell 3
          have cy4 := Y4.out.cell 4
          have cy5 := Y4.out.cell 5
          simp only [List.getElem?_toArray, List.getElem?_cons_zero, List.getElem?_cons_succ] at cx0 cx1 cx2 cx3 cx4 cx5 cy0 cy1 cy2 cy3 cy4 cy5
          cases r4
          · go_wp2_with fail
            go_ret
            exact ⟨rfl, B4.out⟩
          · go_wp2_with fail
            refine (C5.out _ B4.out).mono ?_
            rintro e5 W5 ⟨rfl, hb⟩
            have B5 := Lib.hid (B4.out.trans (hb.mono B4.out.size))
            clear hb cx0 cx1 cx2 cx3 cx4 cx5 cy0 cy1 cy2 cy3 cy4 cy5
            go_wp2_with fail
            go_ret
            exact ⟨rfl, B5.out⟩
end Go.Proofs.YtonoadjmglkhaaaGreat.Av
