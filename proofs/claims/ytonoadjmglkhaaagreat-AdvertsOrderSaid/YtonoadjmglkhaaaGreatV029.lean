/-
  rightAdvert of package adverts. Conditions: the neighbours and what was seen rise; at most 900 of each.
  rightEntry of package adverts. Conditions: the neighbours and the advertisements rise; at most 900 of each.
  inEntries of package adverts: by their tree, then by their subscription. No condition.
-/
import Derived.Test.YtonoadjmglkhaaaGreatV022
import Derived.Test.YtonoadjmglkhaaaGreatV027
import Derived.Test.YtonoadjmglkhaaaGreatV017
import Derived.Test.YtonoadjmglkhaaaGreatV028
import Derived.Test.YtonoadjmglkhaaaGreatV016
import Derived.Test.YtonoadjmglkhaaaGreatV013
namespace Go.Proofs.YtonoadjmglkhaaaGreat.Av
open Go.RowKit Go.Sort Go.Proofs.YtonoadjmglkhaaaGreat Go.Proofs.YtonoadjmglkhaaaGreat.Rw Go.Proofs.YtonoadjmglkhaaaGreat.Nm Go.Proofs.YtonoadjmglkhaaaGreat.Pr Go.Proofs.YtonoadjmglkhaaaGreat.Bk

/-- Texts far below a machine's length. -/
abbrev Tame (p : List C5) : Prop := ∀ x ∈ p, x.1.size ≤ maxLen ∧ x.2.2.2.2.size ≤ maxLen
/-- May an advertisement be among a broker's? -/
def okAd (b : Br) (a : Ad) : Bool := decide (a.id ∈ b.seen) && (comesB b.near a.par && Wr.rightP a.p)
set_option maxRecDepth 100000 in
set_option maxHeartbeats 8000000 in
theorem rad_any (b : Br) (a : Ad) (nv av sv ev ov : Sl) (x : XAd) (w : World) (h : BrIn w b nv av sv ev ov) (ha : AdIn w x a) (hf : Few b) (hn : b.near.Pairwise (· ≤ ·)) (hr : RiseI b.seen) (ht : Tame a.p) :
    Calls Tryz.prog 63 #[brv b.me nv av sv ev ov, valD x] w fun e w' => e = .returned (.bool (okAd b a)) ∧ Below w.heap.size w w' := by
  obtain ⟨no, nn, nc⟩ := nv
  obtain ⟨ao, an, ac⟩ := av
  obtain ⟨so, sn, sc⟩ := sv
  obtain ⟨eo, en, ec⟩ := ev
  obtain ⟨oo, on_, oc⟩ := ov
  obtain ⟨x1, x2, ⟨xo, xn, xc⟩, x4⟩ := x
  obtain ⟨h0, X, Y⟩ := two_new w #[.int .i64 b.me, .slice no nn nc, .slice ao an ac, .slice so sn sc, .slice eo en ec, .slice oo on_ oc] #[.int .i64 x1, .int .i64 x2, .slice xo xn xc, .int .i64 x4] 29 42
  have B0 := Lib.hid h0
  have HX := Lib.hid X
  have HY := Lib.hid Y
  have C1 := Lib.hid (bsJ_any (.slice so sn sc) b.seen (x1, x2) _ (h.seen.on h0) hr hf.seen)
  have C2 := Lib.hid (fun W' (q : Below w.heap.size w W') => comes_any b.me (no, nn, nc) (.slice ao an ac) (.slice so sn sc) (.slice eo en ec) (.slice oo on_ oc) b.near x4 W' (h.near.on q) hn hf.near)
  have C3 := Lib.hid (fun W' (q : Below w.heap.size w W') => Avp.pright_any (.slice xo xn xc) a.p W' (ha.2.2.on q) ht)
  rw [thereK_in hr] at C1
  have RS := Lib.hid (show okAd b a = (decide ((x1, x2) ∈ b.seen) && (comesB b.near x4 && Wr.rightP a.p)) by unfold okAd; rw [← ha.1, ← ha.2.1])
  generalize okAd b a = res at *
  have em : decide ((x1, x2) ∈ List.map keyJ b.seen) = decide ((x1, x2) ∈ b.seen) := by rw [show List.map keyJ b.seen = b.seen from List.map_id' _]
  rw [em] at C1
  generalize decide ((x1, x2) ∈ b.seen) = r1 at *
  generalize comesB b.near x4 = r2 at *
  generalize Wr.rightP a.p = r3 at *
  generalize placeK keyJ b.seen (x1, x2) = pk at *
  have cx0 := X.cell 0
  have cx1 := X.cell 1
  have cx2 := X.cell 2
  have cx3 := X.cell 3
  have cx4 := X.cell 4
  have cx5 := X.cell 5
  have cy0 := Y.cell 0
  have cy1 := Y.cell 1
  have cy2 := Y.cell 2
  have cy3 := Y.cell 3
  simp only [List.getElem?_toArray, List.getElem?_cons_zero, List.getElem?_cons_succ] at cx0 cx1 cx2 cx3 cx4 cx5 cy0 cy1 cy2 cy3
  clear h0 X Y h ha hf hn hr ht em
  go_enter Tryz.func63, Tryz.ntmps63
  go_wp2_with fail
  refine C1.out.mono ?_
  rintro e1 w1 ⟨rfl, hb⟩
  have B1 := Lib.hid (B0.out.trans (hb.mono B0.out.size))
  have X1 := Lib.hid (HX.out.on hb)
  have Y1 := Lib.hid (HY.out.on hb)
  clear hb cx0 cx1 cx2 cx3 cx4 cx5 cy0 cy1 cy2 cy3 HX HY
  have cx0 := X1.out.cell 0
  have cx1 := X1.out.cell 1
  have cx2 := X1.out.cell 2
  have cx3 := X1.out.cell 3
  have cx4 := X1.out.cell 4
  have cx5 := X1.out.cell 5
  have cy0 := Y1.out.cell 0
  have cy1 := Y1.out.cell 1
  have cy2 := Y1.out.cell 2
  have cy3 := Y1.out.cell 3
  simp only [List.getElem?_toArray, List.getElem?_cons_zero, List.getElem?_cons_succ] at cx0 cx1 cx2 cx3 cx4 cx5 cy0 cy1 cy2 cy3
  cases r1
  · go_wp2_with fail
    go_ret
    exact ⟨by rw [RS.out]; rfl, B1.out⟩
  · go_wp2_with fail
    refine (C2.out _ B1.out).mono ?_
    rintro e2 w2 ⟨rfl, hb⟩
    have B2 := Lib.hid (B1.out.trans (hb.mono B1.out.size))
    have Y2 := Lib.hid (Y1.out.on hb)
    clear hb cx0 cx1 cx2 cx3 cx4 cx5 cy0 cy1 cy2 cy3
    have cy0 := Y2.out.cell 0
    have cy1 := Y2.out.cell 1
    have cy2 := Y2.out.cell 2
    have cy3 := Y2.out.cell 3
    simp only [List.getElem?_toArray, List.getElem?_cons_zero, List.getElem?_cons_succ] at cy0 cy1 cy2 cy3
    cases r2
    · go_wp2_with fail
      go_ret
      exact ⟨by rw [RS.out]; rfl, B2.out⟩
    · go_wp2_with fail
      refine (C3.out _ B2.out).mono ?_
      rintro e3 w3 ⟨rfl, hb⟩
      have B3 := Lib.hid (B2.out.trans (hb.mono B2.out.size))
      clear hb cy0 cy1 cy2 cy3
      go_wp2
      go_ret
      exact ⟨by rw [RS.out]; rfl, B3.out⟩
end Go.Proofs.YtonoadjmglkhaaaGreat.Av

namespace Go.Proofs.YtonoadjmglkhaaaGreat.Av
open Go.RowKit Go.Sort Go.Proofs.YtonoadjmglkhaaaGreat Go.Proofs.YtonoadjmglkhaaaGreat.Rw Go.Proofs.YtonoadjmglkhaaaGreat.Nm Go.Proofs.YtonoadjmglkhaaaGreat.Pr Go.Proofs.YtonoadjmglkhaaaGreat.Bk

/-- May an entry be among a broker's? -/
def okEn (b : Br) (e : En) : Bool := match findA b.adv e.tree with
  | none => false
  | some a => !(e.from_ == a.par && !(a.par == -1)) && (comesB b.near e.from_ && (!(e.up && a.par == -1) && Wr.rightP e.p))
theorem findA_in {W : World} {l : List XAd} {al : List Ad} (hA : All2 (AdIn W) l al) (hr : RiseK keyD l) (t : XID) : (thereK keyD l t = false ∧ findA al t = none) ∨ (thereK keyD l t = true ∧ ∃ (y : XAd) (a : Ad), l[placeK keyD l t]? = some y ∧ findA al t = some a ∧ AdIn W y a) := by
  cases ht : thereK keyD l t with
  | false =>
    refine Or.inl ⟨rfl, findA_none fun j a hj e => ?_⟩
    obtain ⟨y, hy, hya⟩ := hA.at j a hj
    have hm : t ∈ l.map keyD := List.mem_map.2 ⟨y, List.mem_of_getElem? hy, by rw [← e]; exact hya.1⟩
    rw [thereK_in hr, decide_eq_true hm] at ht
    cases ht
  | true =>
    right
    refine ⟨rfl, ?_⟩
    unfold thereK at ht
    cases hy : l[placeK keyD l t]? with
    | none => rw [hy] at ht; cases ht
    | some y =>
      rw [hy] at ht
      have hk : keyD y = t := of_decide_eq_true ht
      have hlt := (List.getElem?_eq_some_iff.1 hy).1
      obtain ⟨a, ha⟩ : ∃ a, al[placeK keyD l t]? = some a := ⟨_, List.getElem?_eq_getElem (by rw [← hA.len]; exact hlt)⟩
      obtain ⟨y', hy', hya⟩ := hA.at _ a ha
      rw [hy] at hy'
      obtain rfl := Option.some.inj hy'
      refine ⟨y, a, rfl, findA_at ha (by rw [← hya.1]; exact hk) (fun j z hj hz e => ?_), hya⟩
      obtain ⟨u, hu, huz⟩ := hA.at j z hz
      have h1 := riseK_lt hr hj hu hy
      rw [show keyD u = t from huz.1.trans e, hk, lessI_irr] at h1
      cases h1
set_option maxRecDepth 100000 in
set_option maxHeartbeats 16000000 in
theorem ren_any (b : Br) (e : En) (nv av sv ev ov : Sl) (x : XEn) (w : World) (h : BrIn w b nv av sv ev ov) (he : EnIn w x e) (hf : Few b) (hn : b.near.Pairwise (· ≤ ·)) (hr : RiseA b.adv) (ht : Tame e.p) :
    Calls Tryz.prog 66 #[brv b.me nv av sv ev ov, valN x] w fun r w' => r = .returned (.bool (okEn b e)) ∧ Below w.heap.size w w' := by
  obtain ⟨no, nn, nc⟩ := nv
  obtain ⟨ao, an, ac⟩ := av
  obtain ⟨so, sn, sc⟩ := sv
  obtain ⟨eo, en, ec⟩ := ev
  obtain ⟨oo, on_, oc⟩ := ov
  obtain ⟨x1, x2, x3, x4, ⟨xo, xn, xc⟩, x6, x7⟩ := x
  obtain ⟨h0, X, Y⟩ := two_new w #[.int .i64 b.me, .slice no nn nc, .slice ao an ac, .slice so sn sc, .slice eo en ec, .slice oo on_ oc] #[.int .i64 x1, .int .i64 x2, .int .i64 x3, .int .i64 x4, .slice xo xn xc, .int .i64 x6, .bool x7] 29 58
  have B0 := Lib.hid h0
  have HX := Lib.hid X
  have HY := Lib.hid Y
  obtain ⟨la, ha1, ha2⟩ := h.adv
  have hrl : RiseK keyD la := by
    have := (riseK_map Ad.id b.adv).1 hr
    rw [riseK_map, show la.map keyD = b.adv.map Ad.id from by
      clear ha1 this hr hf h
      generalize b.adv = al at ha2
      induction ha2 with
      | nil => rfl
      | cons q _ ih => rw [List.map_cons, List.map_cons, ih]; exact congrArg (· :: _) q.1]
    exact this
  have hla : la.length ≤ 900 := by rw [ha2.len]; exact hf.adv
  have C1 := Lib.hid (bsD_any (.slice ao an ac) la (x1, x2, (none, 0, 0), 0) _ (ha1.on h0) hrl hla)
  have C2 := Lib.hid (fun W' (q : Below w.heap.size w W') => comes_any b.me (no, nn, nc) (.slice ao an ac) (.slice so sn sc) (.slice eo en ec) (.slice oo on_ oc) b.near x6 W' (h.near.on q) hn hf.near)
  have C3 := Lib.hid (fun W' (q : Below w.heap.size w W') => Avp.pright_any (.slice xo xn xc) e.p W' (he.2.2.2.2.on q) ht)
  have FF := findA_in ha2 hrl (x1, x2)
  have HT := he.1
  have HFR := he.2.2.1
  have HUP := he.2.2.2.1
  have HA1 := Lib.hid ha1
  have LL := Lib.hid hla
  have RS := Lib.hid (show okEn b e = match findA b.adv (x1, x2) with | none => false | some a => !(x6 == a.par && !(a.par == -1)) && (comesB b.near x6 && (!(x7 && a.par == -1) && Wr.rightP e.p)) by unfold okEn; rw [← HT, ← HFR, ← HUP])
  generalize okEn b e = res at *
  generalize comesB b.near x6 = r2 at *
  generalize Wr.rightP e.p = r3 at *
  have cx0 := X.cell 0
  have cx1 := X.cell 1
  have cx2 := X.cell 2
  have cx3 := X.cell 3
  have cx4 := X.cell 4
  have cx5 := X.cell 5
  have cy0 := Y.cell 0
  have cy1 := Y.cell 1
  have cy2 := Y.cell 2
  have cy3 := Y.cell 3
  have cy4 := Y.cell 4
  have cy5 := Y.cell 5
  have cy6 := Y.cell 6
  simp only [List.getElem?_toArray, List.getElem?_cons_zero, List.getElem?_cons_succ] at cx0 cx1 cx2 cx3 cx4 cx5 cy0 cy1 cy2 cy3 cy4 cy5 cy6
  clear h0 X Y h he hf hn hr ht hrl hla HT HFR HUP
  rcases FF with ⟨t0, f0⟩ | ⟨t0, y, a, hy, f0, hya⟩
  · have C1 : Hid (Calls Tryz.prog 84 #[.slice ao an ac, .agg #[.int .i64 x1, .int .i64 x2, .slice none 0 0, .int .i64 0], .func (.func 32) #[] #[]] ((w.alloc (.cells #[.int .i64 b.me, .slice no nn nc, .slice ao an ac, .slice so sn sc, .slice eo en ec, .slice oo on_ oc] 29)).alloc (.cells #[.int .i64 x1, .int .i64 x2, .int .i64 x3, .int .i64 x4, .slice xo xn xc, .int .i64 x6, .bool x7] 58)) fun e1 w' => e1 = .returned (.tuple #[.int .i64 (placeK keyD la (x1, x2)), .bool false]) ∧ Below ((w.alloc (.cells #[.int .i64 b.me, .slice no nn nc, .slice ao an ac, .slice so sn sc, .slice eo en ec, .slice oo on_ oc] 29)).alloc (.cells #[.int .i64 x1, .int .i64 x2, .int .i64 x3, .int .i64 x4, .slice xo xn xc, .int .i64 x6, .bool x7] 58)).heap.size ((w.alloc (.cells #[.int .i64 b.me, .slice no nn nc, .slice ao an ac, .slice so sn sc, .slice eo en ec, .slice oo on_ oc] 29)).alloc (.cells #[.int .i64 x1, .int .i64 x2, .int .i64 x3, .int .i64 x4, .slice xo xn xc, .int .i64 x6, .bool x7] 58)) w') := by rw [← t0]; exact C1
    have RF := Lib.hid (show res = false by rw [RS.out, f0])
    clear RS t0 f0 HA1 ha1 ha2
    go_enter Tryz.func66, Tryz.ntmps66
    go_wp2_with fail
    refine C1.out.mono ?_
    rintro e1 w1 ⟨rfl, hb⟩
    have B1 := Lib.hid (B0.out.trans (hb.mono B0.out.size))
    clear hb
    go_wp2_with fail
    go_ret
    exact ⟨by rw [RF.out]; rfl, B1.out⟩
  · have C1 : Hid (Calls Tryz.prog 84 #[.slice ao an ac, .agg #[.int .i64 x1, .int .i64 x2, .slice none 0 0, .int .i64 0], .func (.func 32) #[] #[]] ((w.alloc (.cells #[.int .i64 b.me, .slice no nn nc, .slice ao an ac, .slice so sn sc, .slice eo en ec, .slice oo on_ oc] 29)).alloc (.cells #[.int .i64 x1, .int .i64 x2, .int .i64 x3, .int .i64 x4, .slice xo xn xc, .int .i64 x6, .bool x7] 58)) fun e1 w' => e1 = .returned (.tuple #[.int .i64 (placeK keyD la (x1, x2)), .bool true]) ∧ Below ((w.alloc (.cells #[.int .i64 b.me, .slice no nn nc, .slice ao an ac, .slice so sn sc, .slice eo en ec, .slice oo on_ oc] 29)).alloc (.cells #[.int .i64 x1, .int .i64 x2, .int .i64 x3, .int .i64 x4, .slice xo xn xc, .int .i64 x6, .bool x7] 58)).heap.size ((w.alloc (.cells #[.int .i64 b.me, .slice no nn nc, .slice ao an ac, .slice so sn sc, .slice eo en ec, .slice oo on_ oc] 29)).alloc (.cells #[.int .i64 x1, .int .i64 x2, .int .i64 x3, .int .i64 x4, .slice xo xn xc, .int .i64 x6, .bool x7] 58)) w') := by rw [← t0]; exact C1
    obtain ⟨uo, uc, hv⟩ := ha1.len
    have hv : Value.slice ao an ac = .slice uo la.length uc := hv
    obtain ⟨rfl, rfl, rfl⟩ : ao = uo ∧ an = la.length ∧ ac = uc := by simpa using hv
    obtain ⟨p, ix, px⟩ := elD HA1.out rfl rfl hy
    obtain ⟨y1, y2, ⟨yo, yn, yc⟩, y4⟩ := y
    have hpar : a.par = y4 := hya.2.1.symm
    have RS := Lib.hid (show res = (!(x6 == y4 && !(y4 == -1)) && (r2 && (!(x7 && y4 == -1) && r3))) by rw [RS.out, f0]; simp only; rw [hpar])
    obtain ⟨q1, hq1⟩ : ∃ q, (x6 == y4) = q := ⟨_, rfl⟩
    obtain ⟨q2, hq2⟩ : ∃ q, (y4 == -1) = q := ⟨_, rfl⟩
    rw [hq1, hq2] at RS
    generalize placeK keyD la (x1, x2) = pk at *
    generalize la.length = n at *
    clear t0 f0 HA1 ha1 ha2 hy hya hpar hv
    have PX := Lib.hid px
    clear px
    go_enter Tryz.func66, Tryz.ntmps66
    go_wp2_with fail
    refine C1.out.mono ?_
    rintro e1 w1 ⟨rfl, hb⟩
    have B1 := Lib.hid (B0.out.trans (hb.mono B0.out.size))
    have X1 := Lib.hid (HX.out.on hb)
    have Y1 := Lib.hid (HY.out.on hb)
    clear hb cx0 cx1 cx2 cx3 cx4 cx5 cy0 cy1 cy2 cy3 cy4 cy5 cy6 HX HY C1
    have cx0 := X1.out.cell 0
    have cx1 := X1.out.cell 1
    have cx2 := X1.out.cell 2
    have cx3 := X1.out.cell 3
    have cx4 := X1.out.cell 4
    have cx5 := X1.out.cell 5
    have cy0 := Y1.out.cell 0
    have cy1 := Y1.out.cell 1
    have cy2 := Y1.out.cell 2
    have cy3 := Y1.out.cell 3
    have cy4 := Y1.out.cell 4
    have cy5 := Y1.out.cell 5
    have cy6 := Y1.out.cell 6
    simp only [List.getElem?_toArray, List.getElem?_cons_zero, List.getElem?_cons_succ] at cx0 cx1 cx2 cx3 cx4 cx5 cy0 cy1 cy2 cy3 cy4 cy5 cy6
    have p3 := (PX.out w1 B1.out).2.2.2
    cases q1
    · go_wp2_with fail
      go_quiet (fail)
      go_wp2_with fail
      have BQ := Lib.hid (show Below w.heap.size w (w1.drewN nq) from ⟨B1.out.os, B1.out.tape, B1.out.output, B1.out.size, B1.out.block⟩)
      have YQ := Lib.hid (show Box (w1.drewN nq) (w.heap.size + 1) #[.int .i64 x1, .int .i64 x2, .int .i64 x3, .int .i64 x4, .slice xo xn xc, .int .i64 x6, .bool x7] 58 from Y1.out)
      clear cx0 cx1 cx2 cx3 cx4 cx5 cy0 cy1 cy2 cy3 cy4 cy5 cy6 p3 ix X1 Y1 hq1
      refine (C2.out _ BQ.out).mono ?_
      rintro e2 w2 ⟨rfl, hb⟩
      have B2 := Lib.hid (BQ.out.trans (hb.mono BQ.out.size))
      have Y2 := Lib.hid (YQ.out.on hb)
      clear hb BQ YQ B1
      have cy0 := Y2.out.cell 0
      have cy1 := Y2.out.cell 1
      have cy2 := Y2.out.cell 2
      have cy3 := Y2.out.cell 3
      have cy4 := Y2.out.cell 4
      have cy5 := Y2.out.cell 5
      have cy6 := Y2.out.cell 6
      simp only [List.getElem?_toArray, List.getElem?_cons_zero, List.getElem?_cons_succ] at cy0 cy1 cy2 cy3 cy4 cy5 cy6
      cases r2
      · go_wp2_with fail
        go_ret
        exact ⟨by rw [RS.out]; simp, B2.out⟩
      cases x7
      · go_wp2_with fail
        refine (C3.out _ B2.out).mono ?_
        rintro e3 w3 ⟨rfl, hb⟩
        have B3 := Lib.hid (B2.out.trans (hb.mono B2.out.size))
        clear hb cy0 cy1 cy2 cy3 cy4 cy5 cy6
        go_wp2
        go_ret
        exact ⟨by rw [RS.out]; simp, B3.out⟩
      cases q2
      · go_wp2_with fail
        refine (C3.out _ B2.out).mono ?_
        rintro e3 w3 ⟨rfl, hb⟩
        have B3 := Lib.hid (B2.out.trans (hb.mono B2.out.size))
        clear hb cy0 cy1 cy2 cy3 cy4 cy5 cy6
        go_wp2
        go_ret
        exact ⟨by rw [RS.out]; simp, B3.out⟩
      · go_wp2_with fail
        go_ret
        exact ⟨by rw [RS.out]; simp, B2.out⟩
    · cases q2
      · go_wp2_with fail
        go_quiet (fail)
        go_wp2_with fail
        go_ret
        exact ⟨by rw [RS.out]; simp, ⟨B1.out.os, B1.out.tape, B1.out.output, B1.out.size, B1.out.block⟩⟩
      · go_wp2_with fail
        go_quiet (fail)
        go_wp2_with fail
        have BQ := Lib.hid (show Below w.heap.size w (w1.drewN nq) from ⟨B1.out.os, B1.out.tape, B1.out.output, B1.out.size, B1.out.block⟩)
        have YQ := Lib.hid (show Box (w1.drewN nq) (w.heap.size + 1) #[.int .i64 x1, .int .i64 x2, .int .i64 x3, .int .i64 x4, .slice xo xn xc, .int .i64 x6, .bool x7] 58 from Y1.out)
        clear cx0 cx1 cx2 cx3 cx4 cx5 cy0 cy1 cy2 cy3 cy4 cy5 cy6 p3 ix X1 Y1 hq1
        refine (C2.out _ BQ.out).mono ?_
        rintro e2 w2 ⟨rfl, hb⟩
        have B2 := Lib.hid (BQ.out.trans (hb.mono BQ.out.size))
        have Y2 := Lib.hid (YQ.out.on hb)
        clear hb BQ YQ B1
        have cy0 := Y2.out.cell 0
        have cy1 := Y2.out.cell 1
        have cy2 := Y2.out.cell 2
        have cy3 := Y2.out.cell 3
        have cy4 := Y2.out.cell 4
        have cy5 := Y2.out.cell 5
        have cy6 := Y2.out.cell 6
        simp only [List.getElem?_toArray, List.getElem?_cons_zero, List.getElem?_cons_succ] at cy0 cy1 cy2 cy3 cy4 cy5 cy6
        cases r2
        · go_wp2_with fail
          go_ret
          exact ⟨by rw [RS.out]; simp, B2.out⟩
        cases x7
        · go_wp2_with fail
          refine (C3.out _ B2.out).mono ?_
          rintro e3 w3 ⟨rfl, hb⟩
          have B3 := Lib.hid (B2.out.trans (hb.mono B2.out.size))
          clear hb cy0 cy1 cy2 cy3 cy4 cy5 cy6
          go_wp2
          go_ret
          exact ⟨by rw [RS.out]; simp, B3.out⟩
        · go_wp2_with fail
          go_ret
          exact ⟨by rw [RS.out]; simp, B2.out⟩
end Go.Proofs.YtonoadjmglkhaaaGreat.Av

namespace Go.Proofs.YtonoadjmglkhaaaGreat.Av
open Go.RowKit Go.Sort Go.Proofs.YtonoadjmglkhaaaGreat Go.Proofs.YtonoadjmglkhaaaGreat.Rw Go.Proofs.YtonoadjmglkhaaaGreat.Nm Go.Proofs.YtonoadjmglkhaaaGreat.Pr Go.Proofs.YtonoadjmglkhaaaGreat.Bk

def ent1V (_B : Nat) (b1 b2 : Nat) (x1 x2 x3 x4 : Int) (_xo : Option Addr) (_xn _xc : Nat) (_x6 : Int) (_x7 : Bool) (y1 y2 y3 y4 : Int) (_yo : Option Addr) (_yn _yc : Nat) (_y6 : Int) (_y7 : Bool) (i : Nat) (v : Value) (x : World) : Prop :=
  match i with
  | 0 => v = .pointer (some ⟨b1, 0, none⟩)
  | 1 => v = .agg #[.int .i64 x1, .int .i64 x2]
  | 2 => v = .pointer (some ⟨b2, 0, none⟩)
  | 3 => v = .agg #[.int .i64 y1, .int .i64 y2]
  | 4 => v = .int .i64 (cmpJ (x1, x2) (y1, y2))
  | 5 => v = .pointer (some ⟨b1, 2, none⟩)
  | 6 => v = .agg #[.int .i64 x3, .int .i64 x4]
  | 7 => v = .pointer (some ⟨b2, 2, none⟩)
  | 8 => v = .agg #[.int .i64 y3, .int .i64 y4]
  | 9 => v = .int .i64 (cmpJ (x3, x4) (y3, y4))
  | 10 => ∃ g, v = .slice (some ⟨g, 0, none⟩) 2 2 ∧ x.cell? ⟨g, 0, none⟩ = some (.int .i64 (cmpJ (x1, x2) (y1, y2))) ∧ x.cell? ⟨g, 1, none⟩ = some (.int .i64 (cmpJ (x3, x4) (y3, y4)))
  | 11 => v = .int .i64 (orI (cmpJ (x1, x2) (y1, y2)) (cmpJ (x3, x4) (y3, y4)))
  | _ => True
noncomputable def ent1C : Code := ((Tryz.f58.body.bind (findRegion 1)).getD .skip)
theorem ent1V_on (B : Nat) (b1 b2 : Nat) (x1 x2 x3 x4 : Int) (xo : Option Addr) (xn xc : Nat) (x6 : Int) (x7 : Bool) (y1 y2 y3 y4 : Int) (yo : Option Addr) (yn yc : Nat) (y6 : Int) (y7 : Bool) (i : Nat) (v : Value) (x x' : World) (h : ent1V B b1 b2 x1 x2 x3 x4 xo xn xc x6 x7 y1 y2 y3 y4 yo yn yc y6 y7 i v x) (hb : Below x.heap.size x x') : ent1V B b1 b2 x1 x2 x3 x4 xo xn xc x6 x7 y1 y2 y3 y4 yo yn yc y6 y7 i v x' := by
  by_cases hi : i < 12
  · rcases (by omega : i = 0 ∨ i = 1 ∨ i = 2 ∨ i = 3 ∨ i = 4 ∨ i = 5 ∨ i = 6 ∨ i = 7 ∨ i = 8 ∨ i = 9 ∨ i = 10 ∨ i = 11) with rfl | rfl | rfl | rfl | rfl | rfl | rfl | rfl | rfl | rfl | rfl | rfl
    · exact h
    · exact h
    · exact h
    · exact h
    · exact h
    · exact h
    · exact h
    · exact h
    · exact h
    · exact h
    · obtain ⟨g, h1, h2, h3⟩ := h; exact ⟨g, h1, by rw [hb.cell (World.block_lt_of_cell? x _ h2)]; exact h2, by rw [hb.cell (World.block_lt_of_cell? x _ h3)]; exact h3⟩
    · exact h
  · unfold ent1V
    split <;> first | omega | trivial
set_option maxRecDepth 100000 in
set_option maxHeartbeats 8000000 in
theorem ent1 (Q : Exit → Act → World → Prop) (W : World) (b1 b2 : Nat) (x1 x2 x3 x4 : Int) (xo : Option Addr) (xn xc : Nat) (x6 : Int) (x7 : Bool) (y1 y2 y3 y4 : Int) (yo : Option Addr) (yn yc : Nat) (y6 : Int) (y7 : Bool) (u0 u1 u4 u5 u6 u7 u8 u9 u10 u11 u12 u13 u14 u15 u16 : Value)
    (h1 : Box W b1 #[.int .i64 x1, .int .i64 x2, .int .i64 x3, .int .i64 x4, .slice xo xn xc, .int .i64 x6, .bool x7] 58) (h2 : Box W b2 #[.int .i64 y1, .int .i64 y2, .int .i64 y3, .int .i64 y4, .slice yo yn yc, .int .i64 y6, .bool y7] 58)
    (hQ : ∀ (x : World) (v5 v6 v7 v8 v9 v10 v11 v12 v13 v14 v15 v16 : Value), Below W.heap.size W x → Q .normal ⟨(u0 :: u1 :: .pointer (some ⟨b1, 0, none⟩) :: .pointer (some ⟨b2, 0, none⟩) :: (.int .i64 (orI (cmpJ (x1, x2) (y1, y2)) (cmpJ (x3, x4) (y3, y4)))) :: v5 :: v6 :: v7 :: v8 :: v9 :: v10 :: v11 :: v12 :: v13 :: v14 :: v15 :: v16 :: []).toArray, []⟩ x) :
    Code.wp Tryz.prog ent1C Q ⟨(u0 :: u1 :: .pointer (some ⟨b1, 0, none⟩) :: .pointer (some ⟨b2, 0, none⟩) :: u4 :: u5 :: u6 :: u7 :: u8 :: u9 :: u10 :: u11 :: u12 :: u13 :: u14 :: u15 :: u16 :: []).toArray, []⟩ W := by
  have HQ := Lib.hid hQ
  have H1 := Lib.hid h1
  have H2 := Lib.hid h2
  clear hQ h1 h2
  have stab := ent1V_on W.heap.size b1 b2 x1 x2 x3 x4 xo xn xc x6 x7 y1 y2 y3 y4 yo yn yc y6 y7
  unfold ent1C
  conv => arg 2; whnf
  have nd : ∀ j, (j < 5 ∨ 17 ≤ j) → ∀ i, i < 12 → (fun i => 5 + i) i ≠ j := by
    intro j hj i hi h
    simp only at h
    omega
  refine Rg.region_live 13 12 (fun i => 5 + i) (fun _ => 12) (ent1V W.heap.size b1 b2 x1 x2 x3 x4 xo xn xc x6 x7 y1 y2 y3 y4 yo yn yc y6 y7) (by kernel_rfl) (by kernel_rfl) rfl (by decide) (fun i j _ _ h => by have h2 : 5 + i = 5 + j := h; omega) (fun i hi => by show 5 + i < 17; omega) ?_ (fun _ => Rg.hall_of 14 (by kernel_rfl)) ?_ ?_
  · intro i o hi ho a x D hnd hc hD hb seen K hK
    clear HQ
    rcases (by omega : i = 0 ∨ i = 1 ∨ i = 2 ∨ i = 3 ∨ i = 4 ∨ i = 5 ∨ i = 6 ∨ i = 7 ∨ i = 8 ∨ i = 9 ∨ i = 10 ∨ i = 11) with rfl | rfl | rfl | rfl | rfl | rfl | rfl | rfl | rfl | rfl | rfl | rfl
    · obtain rfl := Option.some.inj ho
      have e2 : a.eval (.tmp 2) = .pointer (some ⟨b1, 0, none⟩) := seen.kp 2 _ (nd 2 (by omega)) rfl
      exact Rg.op_value rfl rfl (Rg.ex_field a.eval _ 58 (.tmp 2) 0 rfl (by rw [e2]; simp [go_sem])) (hK _ _ rfl (Below.refl _ _) fun _ _ _ _ _ _ _ h => h)
    · obtain rfl := Option.some.inj ho
      have e5 : a.eval (.tmp 5) = .pointer (some ⟨b1, 0, none⟩) := seen.at_ ⟨0, .data⟩ (by simp) rfl (Or.inr (by decide))
      have y0 := (H1.out.on hb).cell 0
      have y1 := (H1.out.on hb).cell 1
      simp only [List.getElem?_toArray, List.getElem?_cons_zero, List.getElem?_cons_succ] at y0 y1
      exact Rg.op_value rfl rfl (Rg.ex_load a.eval _ 37 (.tmp 5) rfl (by rw [e5]; simp [go_sem, y0, y1])) (hK _ _ rfl (Below.refl _ _) fun _ _ _ _ _ _ _ h => h)
    · obtain rfl := Option.some.inj ho
      have e3 : a.eval (.tmp 3) = .pointer (some ⟨b2, 0, none⟩) := seen.kp 3 _ (nd 3 (by omega)) rfl
      exact Rg.op_value rfl rfl (Rg.ex_field a.eval _ 58 (.tmp 3) 0 rfl (by rw [e3]; simp [go_sem])) (hK _ _ rfl (Below.refl _ _) fun _ _ _ _ _ _ _ h => h)
    · obtain rfl := Option.some.inj ho
      have e7 : a.eval (.tmp 7) = .pointer (some ⟨b2, 0, none⟩) := seen.at_ ⟨2, .data⟩ (by simp) rfl (Or.inr (by decide))
      have y0 := (H2.out.on hb).cell 0
      have y1 := (H2.out.on hb).cell 1
      simp only [List.getElem?_toArray, List.getElem?_cons_zero, List.getElem?_cons_succ] at y0 y1
      exact Rg.op_value rfl rfl (Rg.ex_load a.eval _ 37 (.tmp 7) rfl (by rw [e7]; simp [go_sem, y0, y1])) (hK _ _ rfl (Below.refl _ _) fun _ _ _ _ _ _ _ h => h)
    · obtain rfl := Option.some.inj ho
      have e6 : a.eval (.tmp 6) = .agg #[.int .i64 x1, .int .i64 x2] := seen.at_ ⟨1, .data⟩ (by simp) rfl (Or.inr (by decide))
      have e8 : a.eval (.tmp 8) = .agg #[.int .i64 y1, .int .i64 y2] := seen.at_ ⟨3, .data⟩ (by simp) rfl (Or.inr (by decide))
      exact Rg.op_call rfl rfl (Rw.ex_call2 a.eval _ (.tmp 6) (.tmp 8) 37 37 34 rfl e6 e8 rfl _ (call_byID _ _)) (byID_any (x1, x2) (y1, y2) x) fun e w1 h => by
        obtain ⟨rfl, h3⟩ := h
        exact ⟨_, rfl, hK _ _ rfl (h3.mono hb.size) fun j u hj _ _ _ hne h => stab j u _ _ h h3⟩
    · obtain rfl := Option.some.inj ho
      have e2 : a.eval (.tmp 2) = .pointer (some ⟨b1, 0, none⟩) := seen.kp 2 _ (nd 2 (by omega)) rfl
      exact Rg.op_value rfl rfl (Rg.ex_field a.eval _ 58 (.tmp 2) 1 rfl (by rw [e2]; simp [go_sem])) (hK _ _ rfl (Below.refl _ _) fun _ _ _ _ _ _ _ h => h)
    · obtain rfl := Option.some.inj ho
      have e10 : a.eval (.tmp 10) = .pointer (some ⟨b1, 2, none⟩) := seen.at_ ⟨5, .data⟩ (by simp) rfl (Or.inr (by decide))
      have y2 := (H1.out.on hb).cell 2
      have y3 := (H1.out.on hb).cell 3
      simp only [List.getElem?_toArray, List.getElem?_cons_zero, List.getElem?_cons_succ] at y2 y3
      exact Rg.op_value rfl rfl (Rg.ex_load a.eval _ 37 (.tmp 10) rfl (by rw [e10]; simp [go_sem, y2, y3])) (hK _ _ rfl (Below.refl _ _) fun _ _ _ _ _ _ _ h => h)
    · obtain rfl := Option.some.inj ho
      have e3 : a.eval (.tmp 3) = .pointer (some ⟨b2, 0, none⟩) := seen.kp 3 _ (nd 3 (by omega)) rfl
      exact Rg.op_value rfl rfl (Rg.ex_field a.eval _ 58 (.tmp 3) 1 rfl (by rw [e3]; simp [go_sem])) (hK _ _ rfl (Below.refl _ _) fun _ _ _ _ _ _ _ h => h)
    · obtain rfl := Option.some.inj ho
      have e12 : a.eval (.tmp 12) = .pointer (some ⟨b2, 2, none⟩) := seen.at_ ⟨7, .data⟩ (by simp) rfl (Or.inr (by decide))
      have y2 := (H2.out.on hb).cell 2
      have y3 := (H2.out.on hb).cell 3
      simp only [List.getElem?_toArray, List.getElem?_cons_zero, List.getElem?_cons_succ] at y2 y3
      exact Rg.op_value rfl rfl (Rg.ex_load a.eval _ 37 (.tmp 12) rfl (by rw [e12]; simp [go_sem, y2, y3])) (hK _ _ rfl (Below.refl _ _) fun _ _ _ _ _ _ _ h => h)
    · obtain rfl := Option.some.inj ho
      have e11 : a.eval (.tmp 11) = .agg #[.int .i64 x3, .int .i64 x4] := seen.at_ ⟨6, .data⟩ (by simp) rfl (Or.inr (by decide))
      have e13 : a.eval (.tmp 13) = .agg #[.int .i64 y3, .int .i64 y4] := seen.at_ ⟨8, .data⟩ (by simp) rfl (Or.inr (by decide))
      exact Rg.op_call rfl rfl (Rw.ex_call2 a.eval _ (.tmp 11) (.tmp 13) 37 37 34 rfl e11 e13 rfl _ (call_byID _ _)) (byID_any (x3, x4) (y3, y4) x) fun e w1 h => by
        obtain ⟨rfl, h3⟩ := h
        exact ⟨_, rfl, hK _ _ rfl (h3.mono hb.size) fun j u hj _ _ _ hne h => stab j u _ _ h h3⟩
    · obtain rfl := Option.some.inj ho
      have e9 : a.eval (.tmp 9) = .int .i64 (cmpJ (x1, x2) (y1, y2)) := seen.at_ ⟨4, .data⟩ (by simp) rfl (Or.inr (by decide))
      have e14 : a.eval (.tmp 14) = .int .i64 (cmpJ (x3, x4) (y3, y4)) := seen.at_ ⟨9, .data⟩ (by simp) rfl (Or.inr (by decide))
      have hbx := box_new x #[.int .i64 (cmpJ (x1, x2) (y1, y2)), .int .i64 (cmpJ (x3, x4) (y3, y4))] 3
      exact Rg.op_value rfl rfl (Rg.ex_build a.eval _ 23 2 #[(0, .tmp 9), (1, .tmp 14)] rfl (ps := #[(0, .int .i64 (cmpJ (x1, x2) (y1, y2))), (1, .int .i64 (cmpJ (x3, x4) (y3, y4)))]) (by simp [e9, e14]) (by simp [go_sem])) (hK (.slice (some ⟨x.heap.size, 0, none⟩) 2 2) (x.alloc (.cells #[.int .i64 (cmpJ (x1, x2) (y1, y2)), .int .i64 (cmpJ (x3, x4) (y3, y4))] 3)) ⟨x.heap.size, rfl, hbx.cell 0, hbx.cell 1⟩ ((Below.refl _ _).alloc hb.size _) fun j u _ _ _ _ _ h => stab j u _ _ h ((Below.refl _ _).alloc (Nat.le_refl _) _))
    · obtain rfl := Option.some.inj ho
      have E15 := seen.at_ ⟨10, .data⟩ (by simp) rfl (Or.inr (by decide))
      obtain ⟨g, q0, q1, q2⟩ := E15
      exact Rg.op_call rfl rfl (Rw.ex_call1 a.eval _ (.tmp 15) 23 88 rfl q0 rfl _ (call_or _ _)) (or_any g 2 _ _ x q1 q2) fun e w1 h => by
        obtain ⟨rfl, rfl⟩ := h
        exact ⟨_, rfl, hK _ _ rfl (Below.refl _ _) fun j u hj _ _ _ hne h => h⟩
  · intro kk o h1 h2 ho
    omega
  · intro a w' df sz kp ⟨vs, hv⟩ hb
    have sz' : a.tmps.size = 17 := sz
    have g16 : a.tmps[16]? = some (.int .i64 (orI (cmpJ (x1, x2) (y1, y2)) (cmpJ (x3, x4) (y3, y4)))) := by
      have h : vs 11 = .int .i64 (orI (cmpJ (x1, x2) (y1, y2)) (cmpJ (x3, x4) (y3, y4))) := (hv 11 (by omega)).2 (by decide)
      rw [← h]
      exact (hv 11 (by omega)).1
    show Rg.SeqFrom _ _ _ 1 12 a w'
    simp only [Rg.SeqFrom]
    refine Rg.op_value rfl rfl (Rg.ex_assign a.eval _ (.tmp 16) rfl _) ?_
    rw [Rg.eval_some g16]
    have hp4 : (a.put (some 4) (.int .i64 (orI (cmpJ (x1, x2) (y1, y2)) (cmpJ (x3, x4) (y3, y4))))).tmps[4]? = some (.int .i64 (orI (cmpJ (x1, x2) (y1, y2)) (cmpJ (x3, x4) (y3, y4)))) := by simp [Act.put, sz']
    have kp2 : ∀ j, (j < 4 ∨ 17 ≤ j) → (a.put (some 4) (.int .i64 (orI (cmpJ (x1, x2) (y1, y2)) (cmpJ (x3, x4) (y3, y4))))).tmps[j]? = (u0 :: u1 :: .pointer (some ⟨b1, 0, none⟩) :: .pointer (some ⟨b2, 0, none⟩) :: u4 :: u5 :: u6 :: u7 :: u8 :: u9 :: u10 :: u11 :: u12 :: u13 :: u14 :: u15 :: u16 :: [])[j]? := fun j hj => (Rg.get_put _ 4 _ j (by omega)).trans ((kp j (nd j (by omega))).trans List.getElem?_toArray)
    obtain ⟨mid, hmid, hfr⟩ := Rg.frame_mid (a := a.put (some 4) (.int .i64 (orI (cmpJ (x1, x2) (y1, y2)) (cmpJ (x3, x4) (y3, y4))))) (bl := (u0 :: u1 :: .pointer (some ⟨b1, 0, none⟩) :: .pointer (some ⟨b2, 0, none⟩) :: u4 :: u5 :: u6 :: u7 :: u8 :: u9 :: u10 :: u11 :: u12 :: u13 :: u14 :: u15 :: u16 :: [])) 4 13 df (by simp [Rg.size_put, sz']) (by simp) kp2
    show Q .normal (a.put (some 4) (.int .i64 (orI (cmpJ (x1, x2) (y1, y2)) (cmpJ (x3, x4) (y3, y4))))) _
    rw [hfr] at hp4 ⊢
    match mid, hmid with
    | [v4, v5, v6, v7, v8, v9, v10, v11, v12, v13, v14, v15, v16], _ =>
      obtain rfl : v4 = .int .i64 (orI (cmpJ (x1, x2) (y1, y2)) (cmpJ (x3, x4) (y3, y4))) := Option.some.inj hp4
      exact HQ.out _ _ _ _ _ _ _ _ _ _ _ _ _ hb
/-- Which entry is ahead. -/
def cmpN (x y : XEn) : Int := orI (cmpJ (x.1, x.2.1) (y.1, y.2.1)) (cmpJ (x.2.2.1, x.2.2.2.1) (y.2.2.1, y.2.2.2.1))
set_option maxRecDepth 100000 in
theorem inEnt_any (x y : XEn) (w : World) : Calls Tryz.prog 58 #[valN x, valN y] w fun e w' => e = .returned (.int .i64 (cmpN x y)) ∧ Below w.heap.size w w' := by
  obtain ⟨x1, x2, x3, x4, ⟨xo, xn, xc⟩, x6, x7⟩ := x
  obtain ⟨y1, y2, y3, y4, ⟨yo, yn, yc⟩, y6, y7⟩ := y
  obtain ⟨h0, X, Y⟩ := two_new w #[.int .i64 x1, .int .i64 x2, .int .i64 x3, .int .i64 x4, .slice xo xn xc, .int .i64 x6, .bool x7] #[.int .i64 y1, .int .i64 y2, .int .i64 y3, .int .i64 y4, .slice yo yn yc, .int .i64 y6, .bool y7] 58 58
  have B := Lib.hid h0
  have HX := Lib.hid X
  have HY := Lib.hid Y
  have R := Lib.hid (show cmpN (x1, x2, x3, x4, (xo, xn, xc), x6, x7) (y1, y2, y3, y4, (yo, yn, yc), y6, y7) = orI (cmpJ (x1, x2) (y1, y2)) (cmpJ (x3, x4) (y3, y4)) from rfl)
  generalize cmpN (x1, x2, x3, x4, (xo, xn, xc), x6, x7) (y1, y2, y3, y4, (yo, yn, yc), y6, y7) = res at *
  clear h0 X Y
  go_enter Tryz.func58, Tryz.ntmps58
  go_upto_region 1 with fail
  generalize (w.alloc (.cells #[.int .i64 x1, .int .i64 x2, .int .i64 x3, .int .i64 x4, .slice xo xn xc, .int .i64 x6, .bool x7] 58)).alloc (.cells #[.int .i64 y1, .int .i64 y2, .int .i64 y3, .int .i64 y4, .slice yo yn yc, .int .i64 y6, .bool y7] 58) = W at *
  refine ent1 _ W w.heap.size (w.heap.size + 1) x1 x2 x3 x4 xo xn xc x6 x7 y1 y2 y3 y4 yo yn yc y6 y7 _ _ _ _ _ _ _ _ _ _ _ _ _ _ _ HX.out HY.out ?_
  intro x v5 v6 v7 v8 v9 v10 v11 v12 v13 v14 v15 v16 hb
  have HB := Lib.hid hb
  clear hb
  go_wp2
  go_ret
  exact ⟨by have h := R.out; subst h; rfl, B.out.trans (HB.out.mono B.out.size)⟩
end Go.Proofs.YtonoadjmglkhaaaGreat.Av
