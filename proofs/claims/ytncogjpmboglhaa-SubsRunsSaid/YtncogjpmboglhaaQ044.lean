/-
  Add of package subs: a broker with one entry more, if its tree is known, it is not there already, and it came from elsewhere. Conditions: at most 900 of each; the entries rise; predicates in normal form.
-/
import Derived.Test.YtncogjpmboglhaaQ043
import Derived.Test.YtncogjpmboglhaaQ039
import Derived.Test.YtncogjpmboglhaaQ015
import Derived.Test.YtncogjpmboglhaaQ028
import Derived.Test.YtncogjpmboglhaaQ029
namespace Go.Proofs.Ytncogjpmboglhaa.Sb
open Go.RowKit Go.Sort Go.Proofs.Ytncogjpmboglhaa Go.Proofs.Ytncogjpmboglhaa.Rw Go.Proofs.Ytncogjpmboglhaa.Nm Go.Proofs.Ytncogjpmboglhaa.Pr Go.Proofs.Ytncogjpmboglhaa.Bk Go.Proofs.Ytncogjpmboglhaa.Av Go.Proofs.Ytncogjpmboglhaa.Rl

theorem PM.less {w0 wr : World} {B B' : Nat} {v : Value} {p : List C5} (h : PM w0 B wr v p) (hB : B' ≤ B) : PM w0 B' wr v p := h.imp id fun h => own_fewer h hB
theorem Cp.less {w0 wr : World} {B B' : Nat} {b : Br} {nv av sv ev ov : Sl} (h : Cp w0 B wr b nv av sv ev ov) (hB : B' ≤ B) : Cp w0 B' wr b nv av sv ev ov where
  near := own_fewer h.near hB
  seen := own_fewer h.seen hB
  adv := by obtain ⟨l, h1, h2⟩ := h.adv; exact ⟨l, own_fewer h1 hB, h2.mono fun _ _ q => ⟨q.1, q.2.1, PM.less q.2.2 hB⟩⟩
  ent := by obtain ⟨l, h1, h2⟩ := h.ent; exact ⟨l, own_fewer h1 hB, h2.mono fun _ _ q => ⟨q.1, q.2.1, q.2.2.1, q.2.2.2.1, PM.less q.2.2.2.2 hB⟩⟩
  own := by obtain ⟨l, h1, h2⟩ := h.own; exact ⟨l, own_fewer h1 hB, h2.mono fun _ _ q => ⟨q.1, PM.less q.2 hB⟩⟩
/-- What Add answers, by its own way of looking things up. -/
def addF (b : Br) (e : En) : Br × Bool := match findA b.adv e.tree with
  | none => (b, false)
  | some a => if thereE b.ent e.tree e.sub = true then (b, false) else if e.from_ = a.par ∧ a.par ≠ -1 then (b, false) else
    ({ b with ent := insAt b.ent (placeP (b.ent.map keyE) (e.tree, e.sub)) { e with up := !(a.par == -1) && !coveredE b.ent e.tree e.p } }, !(a.par == -1) && !coveredE b.ent e.tree e.p)
theorem addF_eq {b : Br} (hr : RiseE b.ent) {e : En} : addF b e = addB b e := by
  unfold addF addB
  have ft := find_there hr e.tree e.sub
  have ek : keyE e = (e.tree, e.sub) := rfl
  rw [ek, ft]
  by_cases h : findI (b.adv.map Ad.id) e.tree = -1
  · have hn : findA b.adv e.tree = none := findA_none fun j a hj => findI_neg (key := Ad.id) h j a hj
    rw [hn]
    cases b.adv[(findI (b.adv.map Ad.id) e.tree).toNat]? with
    | none => rfl
    | some a => simp only; rw [if_pos h]
  · obtain ⟨k, hk⟩ : ∃ k : Nat, findI (b.adv.map Ad.id) e.tree = k := ⟨(findI (b.adv.map Ad.id) e.tree).toNat, by have := findI_bd (b.adv.map Ad.id) e.tree; omega⟩
    obtain ⟨g1, g2⟩ := findI_get hk
    rw [List.getElem?_map] at g1
    cases ha : b.adv[k]? with
    | none => rw [ha] at g1; cases g1
    | some a =>
      rw [ha] at g1
      have hx : a.id = e.tree := Option.some.inj g1
      have hf : findA b.adv e.tree = some a := findA_at ha hx fun j z hj hz => g2 j z.id hj (by rw [List.getElem?_map, hz]; rfl)
      rw [hf, hk, Int.toNat_natCast, ha]
      simp only
      rw [if_neg (show ¬ ((k : Int) = -1) by omega)]
      have e1 : (!(a.par == -1)) = decide (a.par ≠ -1) := by by_cases hp : a.par = -1 <;> simp [hp]
      rw [e1]
      by_cases ht : thereE b.ent e.tree e.sub = true
      · rw [if_pos ht, if_pos ht, if_pos (by omega)]
      · rw [if_neg ht, if_neg ht, if_neg (show ¬ ((-1 : Int) ≠ -1) by simp)]
        by_cases hp : e.from_ = a.par ∧ a.par ≠ -1
        · rw [if_pos hp, if_pos ⟨by rw [hp.1]; exact hp.2, hp.1⟩]
        · rw [if_neg hp, if_neg fun q => hp ⟨q.2, by rw [← q.2]; exact q.1⟩]
set_option maxRecDepth 100000 in
set_option maxHeartbeats 64000000 in
theorem sadd_any (b : Br) (e : En) (nv av sv ev ov : Sl) (x : XEn) (w : World) (h : BrIn w b nv av sv ev ov) (he : EnIn w x e) (hf : Few b) (hp : FewP b) (hr : RiseE b.ent) (hok : ∀ e ∈ b.ent, PredOk e.p) (hoe : PredOk e.p) :
    Calls Try.prog 9 #[brv b.me nv av sv ev ov, valN x] w (LearnQ w (NearOwn w nv b.near) (addB b e)) := by
  obtain ⟨no, nn, nc⟩ := nv
  obtain ⟨ao, an, ac⟩ := av
  obtain ⟨so, sn, sc⟩ := sv
  obtain ⟨eo, en, ec⟩ := ev
  obtain ⟨oo, on_, oc⟩ := ov
  obtain ⟨y1, y2, y3, y4, ⟨yo, yn, yc⟩, y6, y7⟩ := x
  obtain ⟨h0, h1, h2, h3⟩ := three_new w #[.int .i64 b.me, .slice no nn nc, .slice ao an ac, .slice so sn sc, .slice eo en ec, .slice oo on_ oc] #[.int .i64 y1, .int .i64 y2, .int .i64 y3, .int .i64 y4, .slice yo yn yc, .int .i64 y6, .bool y7] #[.int .i64 0, .slice none 0 0, .slice none 0 0, .slice none 0 0, .slice none 0 0, .slice none 0 0] 34 42 34
  have BB := Lib.hid h0
  have X1 := Lib.hid h1
  have X2 := Lib.hid h2
  have X3 := Lib.hid h3
  have HH := Lib.hid h
  have EE := Lib.hid he
  have HF := Lib.hid hf
  have HP := Lib.hid hp
  have HR := Lib.hid hr
  have OK := Lib.hid hok
  have OE := Lib.hid hoe
  obtain ⟨la, ha1, ha2⟩ := h.adv
  have SW := Lib.hid (find_any b.me (.slice no nn nc) (.slice so sn sc) (.slice eo en ec) (.slice oo on_ oc) (ao, an, ac) la b.adv (y1, y2) _ (ha1.on BB.out) (ha2.mono fun _ _ q => q.on BB.out) hp.adv)
  have ET := Lib.hid (show e.tree = (y1, y2) from he.1.symm)
  have ES := Lib.hid (show e.sub = (y3, y4) from he.2.1.symm)
  have EF := Lib.hid (show e.from_ = y6 from he.2.2.1.symm)
  have x0 := X1.out.cell 0
  have x1 := X1.out.cell 1
  have x2 := X1.out.cell 2
  have x3 := X1.out.cell 3
  have x4 := X1.out.cell 4
  have x5 := X1.out.cell 5
  simp only [List.getElem?_toArray, List.getElem?_cons_zero, List.getElem?_cons_succ] at x0 x1 x2 x3 x4 x5
  have d0 := X2.out.cell 0
  have d1 := X2.out.cell 1
  have d2 := X2.out.cell 2
  have d3 := X2.out.cell 3
  have d4 := X2.out.cell 4
  have d5 := X2.out.cell 5
  have d6 := X2.out.cell 6
  simp only [List.getElem?_toArray, List.getElem?_cons_zero, List.getElem?_cons_succ] at d0 d1 d2 d3 d4 d5 d6
  clear h0 h1 h2 h3 h he hf hp hr hok hoe ha1 ha2 la
  go_enter Try.func9, Try.ntmps9
  go_wp2_with fail
  generalize ((w.alloc (.cells #[.int .i64 b.me, .slice no nn nc, .slice ao an ac, .slice so sn sc, .slice eo en ec, .slice oo on_ oc] 34)).alloc (.cells #[.int .i64 y1, .int .i64 y2, .int .i64 y3, .int .i64 y4, .slice yo yn yc, .int .i64 y6, .bool y7] 42)).alloc (.cells #[.int .i64 0, .slice none 0 0, .slice none 0 0, .slice none 0 0, .slice none 0 0, .slice none 0 0] 34) = W at *
  refine SW.out.mono ?_
  rintro e1 w1 ⟨hq, hb⟩
  have B1 := Lib.hid (BB.out.trans (hb.mono BB.out.size))
  have Z1 := Lib.hid (X1.out.on hb)
  have Z2 := Lib.hid (X2.out.on hb)
  have Z3 := Lib.hid (X3.out.on hb)
  clear hb SW X1 X2 X3
  clear x0 x1 x2 x3 x4 x5
  clear d0 d1 d2 d3 d4 d5 d6
  obtain ⟨⟨r1, r2, ⟨ro, rn, rc⟩, r4⟩, kn, rfl, hin⟩ : ∃ (r : XAd) (kn : Bool), e1 = .returned (.tuple #[valD r, .bool kn]) ∧ ((kn = false ∧ findA b.adv (y1, y2) = none) ∨ (kn = true ∧ ∃ a, findA b.adv (y1, y2) = some a ∧ r.2.2.2 = a.par)) := by
    cases hfa : findA b.adv (y1, y2) with
    | none =>
      rw [hfa] at hq
      exact ⟨_, false, hq, Or.inl ⟨rfl, rfl⟩⟩
    | some a =>
      rw [hfa] at hq
      obtain ⟨r, h1, h2⟩ := hq
      exact ⟨r, true, h1, Or.inr ⟨rfl, a, rfl, h2.2.1⟩⟩
  have HI := Lib.hid hin
  have nb := newB w1 (.cells #[.int .i64 r1, .int .i64 r2, .slice ro rn rc, .int .i64 r4] 39)
  have AB := Lib.hid (box_new w1 #[.int .i64 r1, .int .i64 r2, .slice ro rn rc, .int .i64 r4] 39)
  have B2 := Lib.hid (B1.out.trans (nb.mono B1.out.size))
  have Y1 := Lib.hid (Z1.out.on nb)
  have Y2 := Lib.hid (Z2.out.on nb)
  have Y3 := Lib.hid (Z3.out.on nb)
  obtain ⟨les, hs1, hs2⟩ := HH.out.ent
  have PL := Lib.hid (place_any (eo, en, ec) les b.ent (y1, y2) (y3, y4) _ (hs1.on B2.out) (hs2.mono fun _ _ q => q.on B2.out) HR.out (by rw [hs2.len]; have := HF.out.ent; omega))
  have LES1 := Lib.hid hs1
  have LES2 := Lib.hid hs2
  obtain ⟨k, hk⟩ : ∃ k, placeP (b.ent.map keyE) ((y1, y2), (y3, y4)) = k := ⟨_, rfl⟩
  obtain ⟨th, hth⟩ : ∃ k, thereE b.ent (y1, y2) (y3, y4) = k := ⟨_, rfl⟩
  rw [hk, hth] at PL
  have HK := Lib.hid hk
  have TH := Lib.hid hth
  have KL := Lib.hid (show k ≤ b.ent.length by rw [← hk]; simpa using place_le (b.ent.map keyE) ((y1, y2), (y3, y4)))
  have x4 := Y1.out.cell 4
  simp only [List.getElem?_toArray, List.getElem?_cons_zero, List.getElem?_cons_succ] at x4
  have d0 := Y2.out.cell 0
  have d1 := Y2.out.cell 1
  have d2 := Y2.out.cell 2
  have d3 := Y2.out.cell 3
  simp only [List.getElem?_toArray, List.getElem?_cons_zero, List.getElem?_cons_succ] at d0 d1 d2 d3
  clear hin hq nb hs1 hs2 hk hth Z1 Z2 Z3
  go_wp2_with fail
  generalize hw2 : w1.alloc (.cells #[.int .i64 r1, .int .i64 r2, .slice ro rn rc, .int .i64 r4] 39) = w2 at *
  refine PL.out.mono ?_
  rintro e2 w3 ⟨rfl, hb⟩
  have BW := Lib.hid (B2.out.trans (hb.mono B2.out.size))
  have T1 := Lib.hid (Y1.out.on hb)
  have T2 := Lib.hid (Y2.out.on hb)
  have T3 := Lib.hid (Y3.out.on hb)
  have TA := AB.out.on hb
  clear x4
  clear d0 d1 d2 d3
  have a3 := TA.cell 3
  have d5 := T2.out.cell 5
  simp only [List.getElem?_toArray, List.getElem?_cons_zero, List.getElem?_cons_succ] at a3 d5
  obtain ⟨fq, hfq⟩ : ∃ q, (y6 == r4) = q := ⟨_, rfl⟩
  obtain ⟨rt, hrt⟩ : ∃ q, (r4 == -1) = q := ⟨_, rfl⟩
  have FQ := Lib.hid hfq
  have RT := Lib.hid hrt
  clear hb PL TA Y1 Y2 Y3 AB hw2
  cases kn
  · have LQ := Lib.hid (show addB b e = (b, false) from by
      rw [← addF_eq HR.out]
      unfold addF
      have h0 : findA b.adv e.tree = none := by
        rw [ET.out]
        rcases HI.out with ⟨_, h⟩ | ⟨h, _⟩
        · exact h
        · cases h
      rw [h0])
    have Q1 := T1.out
    have Q3 := T3.out
    have x0 := Q1.cell 0
    have x1 := Q1.cell 1
    have x2 := Q1.cell 2
    have x3 := Q1.cell 3
    have x4 := Q1.cell 4
    have x5 := Q1.cell 5
    simp only [List.getElem?_toArray, List.getElem?_cons_zero, List.getElem?_cons_succ] at x0 x1 x2 x3 x4 x5
    have z0 := Q3.cell 0
    have z1 := Q3.cell 1
    have z2 := Q3.cell 2
    have z3 := Q3.cell 3
    have z4 := Q3.cell 4
    have z5 := Q3.cell 5
    have zf0 := Q3.fr 0
    have zf1 := Q3.fr 1
    have zf2 := Q3.fr 2
    have zf3 := Q3.fr 3
    have zf4 := Q3.fr 4
    have zf5 := Q3.fr 5
    have zlt := Q3.lt
    simp only [List.getElem?_toArray, List.getElem?_cons_zero, List.getElem?_cons_succ] at z0 z1 z2 z3 z4 z5
    have FB := Lib.hid (setB_box Q3 (.int .i64 b.me) (.slice no nn nc) (.slice ao an ac) (.slice so sn sc) (.slice eo en ec) (.slice oo on_ oc))
    have FL := Lib.hid (setB_below (b := w.heap.size + 1 + 1) BW.out (by omega) (.int .i64 b.me) (.slice no nn nc) (.slice ao an ac) (.slice so sn sc) (.slice eo en ec) (.slice oo on_ oc))
    clear Q1 Q3
    go_wp2_with fail
    clear z0 z1 z2 z3 z4 z5
    have v0 := FB.out.cell 0
    have v1 := FB.out.cell 1
    have v2 := FB.out.cell 2
    have v3 := FB.out.cell 3
    have v4 := FB.out.cell 4
    have v5 := FB.out.cell 5
    simp at v0 v1 v2 v3 v4 v5
    refine bodyPost_ret (v := .tuple #[.agg #[.int .i64 b.me, .slice no nn nc, .slice ao an ac, .slice so sn sc, .slice eo en ec, .slice oo on_ oc], .bool false]) (by simp [results, Try.results9, go_sem, v0, v1, v2, v3, v4, v5]) rfl ?_
    rw [LQ.out]
    exact ⟨⟨(no, nn, nc), (ao, an, ac), (so, sn, sc), (eo, en, ec), (oo, on_, oc), rfl, HH.out.on FL.out, fun h => h.on FL.out⟩, FL.out⟩
  · cases th
    · cases rt
      · cases fq
        · have x0 := T2.out.cell 0
          have x1 := T2.out.cell 1
          have x2 := T2.out.cell 2
          have x3 := T2.out.cell 3
          have x4 := T2.out.cell 4
          have x6 := T2.out.cell 6
          simp only [List.getElem?_toArray, List.getElem?_cons_zero, List.getElem?_cons_succ] at x0 x1 x2 x3 x4 x6
          have PE := Lib.hid (show RowC w3 (.slice yo yn yc) e.p from (EE.out.2.2.2.2).on BW.out)
          have CP := Lib.hid (cpE_any (y1, y2, y3, y4, (yo, yn, yc), y6, y7) e.p w3 PE.out (predOk_len OE.out))
          go_wp2_with fail
          refine CP.out.mono ?_
          rintro e4 w3b ⟨⟨⟨u1, u2, u3⟩, rfl, ho⟩, hb⟩
          clear x0 x1 x2 x3 x4 x6
          clear a3 d5
          have V2 := T2.out.on hb
          have x0 := V2.cell 0
          have x1 := V2.cell 1
          have x2 := V2.cell 2
          have x3 := V2.cell 3
          have x4 := V2.cell 4
          have x5 := V2.cell 5
          have x6 := V2.cell 6
          have xf0 := V2.fr 0
          have xf1 := V2.fr 1
          have xf2 := V2.fr 2
          have xf3 := V2.fr 3
          have xf4 := V2.fr 4
          have xf5 := V2.fr 5
          have xf6 := V2.fr 6
          have xlt := V2.lt
          simp only [List.getElem?_toArray, List.getElem?_cons_zero, List.getElem?_cons_succ] at x0 x1 x2 x3 x4 x5 x6
          have bs := but_setE w3b (w.heap.size + 1) (.int .i64 y1) (.int .i64 y2) (.int .i64 y3) (.int .i64 y4) (.slice u1 u2 u3) (.int .i64 y6) (.bool y7)
          have E2 := Lib.hid (setE_box V2 (.int .i64 y1) (.int .i64 y2) (.int .i64 y3) (.int .i64 y4) (.slice u1 u2 u3) (.int .i64 y6) (.bool y7))
          have E1 := Lib.hid (bs.box (T1.out.on hb) (by omega))
          have E3 := Lib.hid (bs.box (T3.out.on hb) (by omega))
          have EO := Lib.hid (bs.own ho V2 (by decide))
          have EL := Lib.hid (setE_below (b := w.heap.size + 1) (BW.out.trans (hb.mono BW.out.size)) (by omega) (.int .i64 y1) (.int .i64 y2) (.int .i64 y3) (.int .i64 y4) (.slice u1 u2 u3) (.int .i64 y6) (.bool y7))
          have ES2 := Lib.hid (show w3.heap.size ≤ (setE w3b (w.heap.size + 1) (.int .i64 y1) (.int .i64 y2) (.int .i64 y3) (.int .i64 y4) (.slice u1 u2 u3) (.int .i64 y6) (.bool y7)).heap.size by have := hb.size; simp; omega)
          have L4 := Lib.hid (show w.heap.size + 1 + 1 < w3.heap.size from T3.out.lt)
          clear V2 ho hb CP T1 T2 T3 BW bs
          go_upto_region 7 with fail
          clear x0 x1 x2 x3 x4 x5 x6 xf0 xf1 xf2 xf3 xf4 xf5 xf6 xlt
          unfold setE at E2 E1 E3 EO EL ES2
          generalize (((((((w3b).setCell ⟨w.heap.size + 1, 0, none⟩ (.int .i64 y1)).setCell ⟨w.heap.size + 1, 1, none⟩ (.int .i64 y2)).setCell ⟨w.heap.size + 1, 2, none⟩ (.int .i64 y3)).setCell ⟨w.heap.size + 1, 3, none⟩ (.int .i64 y4)).setCell ⟨w.heap.size + 1, 4, none⟩ (.slice u1 u2 u3)).setCell ⟨w.heap.size + 1, 5, none⟩ (.int .i64 y6)).setCell ⟨w.heap.size + 1, 6, none⟩ (.bool y7) = w4b at *
          have x0 := E2.out.cell 0
          have x1 := E2.out.cell 1
          have x4 := E2.out.cell 4
          simp only [List.getElem?_toArray, List.getElem?_cons_zero, List.getElem?_cons_succ] at x0 x1 x4
          have z0 := E1.out.cell 0
          have z1 := E1.out.cell 1
          have z2 := E1.out.cell 2
          have z3 := E1.out.cell 3
          have z4 := E1.out.cell 4
          have z5 := E1.out.cell 5
          simp only [List.getElem?_toArray, List.getElem?_cons_zero, List.getElem?_cons_succ] at z0 z1 z2 z3 z4 z5
          have CV := Lib.hid (scov_any b.me (.slice no nn nc) (.slice ao an ac) (.slice so sn sc) (.slice oo on_ oc) (eo, en, ec) les b.ent (y1, y2) (.slice u1 u2 u3) e.p w4b (LES1.out.on EL.out) (LES2.out.mono fun _ _ q => q.on EL.out) HR.out (by rw [LES2.out.len]; have := HF.out.ent; omega) (Row.of_own EO.out) OK.out OE.out)
          obtain ⟨cv, hcv⟩ : ∃ c, coveredE b.ent (y1, y2) e.p = c := ⟨_, rfl⟩
          rw [hcv] at CV
          have CVQ := Lib.hid hcv
          clear hcv
          go_wp2_with fail
          refine CV.out.mono ?_
          rintro e5 w4c ⟨rfl, hb⟩
          clear x0 x1 x4
          clear z0 z1 z2 z3 z4 z5
          replace E2 := Lib.hid (E2.out.on hb)
          replace E1 := Lib.hid (E1.out.on hb)
          replace E3 := Lib.hid (E3.out.on hb)
          replace EO := Lib.hid (Bk.own_on EO.out hb)
          replace ES2 := Lib.hid (Nat.le_trans ES2.out hb.size)
          replace EL := Lib.hid (EL.out.trans (hb.mono EL.out.size))
          clear CV hb
          have x6 := E2.out.cell 6
          have xf6 := E2.out.fr 6
          have xlt := E2.out.lt
          simp only [List.getElem?_toArray, List.getElem?_cons_zero, List.getElem?_cons_succ] at x6
          have bs := but_cell w4c (w.heap.size + 1) 6 (.bool (!cv))
          have T2 := Lib.hid (show Box (w4c.setCell ⟨w.heap.size + 1, 6, none⟩ (.bool (!cv))) (w.heap.size + 1) #[.int .i64 y1, .int .i64 y2, .int .i64 y3, .int .i64 y4, .slice u1 u2 u3, .int .i64 y6, .bool (!cv)] 42 by simpa using box_set (k := 6) E2.out (.bool (!cv)))
          have T1 := Lib.hid (bs.box E1.out (by omega))
          have T3 := Lib.hid (bs.box E3.out (by omega))
          have OC := Lib.hid (bs.own EO.out E2.out (by decide))
          have BW := Lib.hid (EL.out.setCell (p := ⟨w.heap.size + 1, 6, none⟩) (by simp) (.bool (!cv)))
          have S45 := Lib.hid (show w3.heap.size ≤ (w4c.setCell ⟨w.heap.size + 1, 6, none⟩ (.bool (!cv))).heap.size by have := ES2.out; simp; omega)
          clear bs E1 E2 E3 EO EL ES2
          go_upto_region 8 with fail
          clear x6 xf6 xlt
          generalize w4c.setCell ⟨w.heap.size + 1, 6, none⟩ (.bool (!cv)) = w5 at *
          have LQ := Lib.hid (show addB b e = ({ b with ent := insAt b.ent k { e with up := (!cv) } }, (!cv)) from by
            rw [← addF_eq HR.out]
            unfold addF
            obtain ⟨a, h0, h1⟩ : ∃ a, findA b.adv e.tree = some a ∧ r4 = a.par := by
              rw [ET.out]
              rcases HI.out with ⟨h, _⟩ | ⟨_, h⟩
              · cases h
              · exact h
            rw [h0]
            simp only
            rw [if_neg (by rw [ET.out, ES.out, TH.out]; simp), if_neg ?_, show placeP (b.ent.map keyE) (e.tree, e.sub) = k by rw [ET.out, ES.out]; exact HK.out, ← h1, RT.out]
            · rw [ET.out, CVQ.out]
              rfl
            · rintro ⟨g, _⟩
              rw [EF.out, ← h1] at g
              have := FQ.out
              simp at this
              exact this g)
          have Q1 := T1.out
          have x0 := Q1.cell 0
          have x1 := Q1.cell 1
          have x2 := Q1.cell 2
          have x3 := Q1.cell 3
          have x4 := Q1.cell 4
          have x5 := Q1.cell 5
          simp only [List.getElem?_toArray, List.getElem?_cons_zero, List.getElem?_cons_succ] at x0 x1 x2 x3 x4 x5
          clear Q1
          go_wp2_with fail
          refine (acopy_any b (no, nn, nc) (ao, an, ac) (so, sn, sc) (eo, en, ec) (oo, on_, oc) w w5 BW.out HH.out HF.out HP.out).mono ?_
          rintro e6 w6 ⟨⟨⟨p1, q1, s1⟩, ⟨p2, q2, s2⟩, ⟨p3, q3, s3⟩, ⟨p4, q4, s4⟩, ⟨p5, q5, s5⟩, rfl, cp⟩, hb6⟩
          clear x0 x1 x2 x3 x4 x5
          have V1 := T1.out.on hb6
          have V2 := Lib.hid (T2.out.on hb6)
          have V3 := Lib.hid (T3.out.on hb6)
          have x0 := V1.cell 0
          have x1 := V1.cell 1
          have x2 := V1.cell 2
          have x3 := V1.cell 3
          have x4 := V1.cell 4
          have x5 := V1.cell 5
          have xf0 := V1.fr 0
          have xf1 := V1.fr 1
          have xf2 := V1.fr 2
          have xf3 := V1.fr 3
          have xf4 := V1.fr 4
          have xf5 := V1.fr 5
          have xlt := V1.lt
          simp only [List.getElem?_toArray, List.getElem?_cons_zero, List.getElem?_cons_succ] at x0 x1 x2 x3 x4 x5
          have bs := but_setB w6 w.heap.size (.int .i64 b.me) (.slice p1 q1 s1) (.slice p2 q2 s2) (.slice p3 q3 s3) (.slice p4 q4 s4) (.slice p5 q5 s5)
          have FB := Lib.hid (setB_box V1 (.int .i64 b.me) (.slice p1 q1 s1) (.slice p2 q2 s2) (.slice p3 q3 s3) (.slice p4 q4 s4) (.slice p5 q5 s5))
          have FC := Lib.hid (Sb.Cp.less (cp.but bs V1) (show w3.heap.size ≤ w5.heap.size from S45.out))
          have FO := Lib.hid (bs.own (Bk.own_on OC.out hb6) V1 (by decide))
          have FL := Lib.hid (setB_below (b := w.heap.size) (BW.out.trans (hb6.mono BW.out.size)) (Nat.le_refl _) (.int .i64 b.me) (.slice p1 q1 s1) (.slice p2 q2 s2) (.slice p3 q3 s3) (.slice p4 q4 s4) (.slice p5 q5 s5))
          have F2 := Lib.hid (bs.box V2.out (by omega))
          have F3 := Lib.hid (bs.box V3.out (by omega))
          have SZ := Lib.hid (show w3.heap.size ≤ (setB w6 w.heap.size (.int .i64 b.me) (.slice p1 q1 s1) (.slice p2 q2 s2) (.slice p3 q3 s3) (.slice p4 q4 s4) (.slice p5 q5 s5)).heap.size by have := hb6.size; have := S45.out; simp; omega)
          clear V1 V2 V3 cp hb6 bs T1 T2 T3 OC BW
          go_upto_region 9 with fail
          clear x0 x1 x2 x3 x4 x5 xf0 xf1 xf2 xf3 xf4 xf5 xlt
          unfold setB at FB FC FL F2 F3 SZ FO
          generalize ((((((w6).setCell ⟨w.heap.size, 0, none⟩ (.int .i64 b.me)).setCell ⟨w.heap.size, 1, none⟩ (.slice p1 q1 s1)).setCell ⟨w.heap.size, 2, none⟩ (.slice p2 q2 s2)).setCell ⟨w.heap.size, 3, none⟩ (.slice p3 q3 s3)).setCell ⟨w.heap.size, 4, none⟩ (.slice p4 q4 s4)).setCell ⟨w.heap.size, 5, none⟩ (.slice p5 q5 s5) = w7 at *
          obtain ⟨le, hle1, hle2⟩ := FC.out.ent
          have HL1 := Lib.hid hle1
          have HL2 := Lib.hid hle2
          clear hle1 hle2
          have nb := newB w7 (.cells #[.int .i64 y1, .int .i64 y2, .int .i64 y3, .int .i64 y4, .slice u1 u2 u3, .int .i64 y6, .bool (!cv)] 42)
          have bx := box_new w7 #[.int .i64 y1, .int .i64 y2, .int .i64 y3, .int .i64 y4, .slice u1 u2 u3, .int .i64 y6, .bool (!cv)] 42
          have IN := Lib.hid (insert_anyN w3.heap.size (.slice p4 q4 s4) le k (y1, y2, y3, y4, (u1, u2, u3), y6, (!cv)) w7.heap.size _ (Bk.own_on HL1.out nb) bx (fun e => by
            obtain ⟨d, hd⟩ := tag_own HL1.out _ e
            have := hd.lt
            omega) (by rw [HL2.out.len]; exact KL.out) (by rw [HL2.out.len]; exact HF.out.ent) (Nat.le_trans SZ.out nb.size))
          have FB2 := Lib.hid (FB.out.on nb)
          have F22 := Lib.hid (F2.out.on nb)
          have F32 := Lib.hid (F3.out.on nb)
          have FO2 := Lib.hid (Bk.own_on FO.out nb)
          have FC2 := Lib.hid (FC.out.grow nb)
          have FL2 := Lib.hid (FL.out.trans (nb.mono FL.out.size))
          have HA2 := Lib.hid (HL2.out.mono fun _ _ q => q.grow nb)
          have HO2 := Lib.hid (tag_own (Bk.own_on HL1.out nb))
          have x4 := FB.out.cell 4
          simp only [List.getElem?_toArray, List.getElem?_cons_zero, List.getElem?_cons_succ] at x4
          have d0 := F2.out.cell 0
          have d1 := F2.out.cell 1
          have d2 := F2.out.cell 2
          have d3 := F2.out.cell 3
          have d4 := F2.out.cell 4
          have d5 := F2.out.cell 5
          have d6 := F2.out.cell 6
          simp only [List.getElem?_toArray, List.getElem?_cons_zero, List.getElem?_cons_succ] at d0 d1 d2 d3 d4 d5 d6
          clear nb bx
          go_wp2_with fail
          refine IN.out.mono ?_
          rintro e8 w8 ⟨v8, rfl, hown, hbel, hoth⟩
          clear x4
          clear d0 d1 d2 d3 d4 d5 d6
          generalize w7.alloc (.cells #[.int .i64 y1, .int .i64 y2, .int .i64 y3, .int .i64 y4, .slice u1 u2 u3, .int .i64 y6, .bool (!cv)] 42) = w7a at *
          obtain ⟨t1, t2, hv8⟩ := (Row.of_own hown).len
          subst hv8
          generalize (le.take k ++ (y1, y2, y3, y4, (u1, u2, u3), y6, (!cv)) :: le.drop k).length = tn at *
          have hoff : Off (Value.slice p4 q4 s4).ownBlock w7a w8 := ⟨hoth, hbel.size⟩
          have CP := Lib.hid (FC2.out.offN (ev' := (t1, tn, t2)) (el := insAt b.ent k { e with up := (!cv) }) hoff ⟨insAt le k (y1, y2, y3, y4, (u1, u2, u3), y6, (!cv)), by unfold insAt; rw [List.append_assoc]; exact hown, all2_ins (HA2.out.mono fun _ _ q => q.off hoff HO2.out (by decide)) k ⟨EE.out.1, EE.out.2.1, EE.out.2.2.1, rfl, Or.inr (hoff.own FO2.out HO2.out (by decide))⟩⟩)
          have G1 := hoff.box FB2.out HO2.out (by decide)
          have G3 := hoff.box F32.out HO2.out (by decide)
          have G2 := Lib.hid (show Box w8 (w.heap.size + 1) #[.int .i64 y1, .int .i64 y2, .int .i64 y3, .int .i64 y4, .slice u1 u2 u3, .int .i64 y6, .bool (!cv)] 42 from (hoth _ F22.out.lt (fun e => by
            have := own_blk HL1.out _ e.symm
            have := L4.out
            omega)).trans F22.out)
          have NC := Lib.hid (show Box (w8.setCell ⟨w.heap.size, 4, none⟩ (.slice t1 tn t2)) w.heap.size #[.int .i64 b.me, .slice p1 q1 s1, .slice p2 q2 s2, .slice p3 q3 s3, .slice t1 tn t2, .slice p5 q5 s5] 34 by simpa using box_set (k := 4) G1 (.slice t1 tn t2))
          have MC := Lib.hid (CP.out.but (but_cell w8 w.heap.size 4 (.slice t1 tn t2)) G1)
          have M3 := Lib.hid ((but_cell w8 w.heap.size 4 (.slice t1 tn t2)).box G3 (by omega))
          have M2 := Lib.hid ((but_cell w8 w.heap.size 4 (.slice t1 tn t2)).box G2.out (by omega))
          have ML := Lib.hid (show Below w.heap.size w (w8.setCell ⟨w.heap.size, 4, none⟩ (.slice t1 tn t2)) from (FL2.out.trans (hbel.mono (by have := L4.out; omega))).setCell (p := ⟨w.heap.size, 4, none⟩) (Nat.le_refl _) _)
          have x4 := G1.cell 4
          have xf4 := G1.fr 4
          have xlt := G1.lt
          simp only [List.getElem?_toArray, List.getElem?_cons_zero, List.getElem?_cons_succ] at x4
          clear hown hbel hoth hoff G1 G2 G3 CP FB FB2 FC FC2 FO FO2 F2 F22 F3 F32 FL FL2 HL1 HL2 HA2 HO2 IN SZ
          go_upto_region 10 with fail
          clear x4 xf4 xlt
          generalize w8.setCell ⟨w.heap.size, 4, none⟩ (.slice t1 tn t2) = w9 at *
          have Q1 := NC.out
          have Q2 := M2.out
          have Q3 := M3.out
          have x0 := Q1.cell 0
          have x1 := Q1.cell 1
          have x2 := Q1.cell 2
          have x3 := Q1.cell 3
          have x4 := Q1.cell 4
          have x5 := Q1.cell 5
          simp only [List.getElem?_toArray, List.getElem?_cons_zero, List.getElem?_cons_succ] at x0 x1 x2 x3 x4 x5
          have d6 := Q2.cell 6
          simp only [List.getElem?_toArray, List.getElem?_cons_zero, List.getElem?_cons_succ] at d6
          have z0 := Q3.cell 0
          have z1 := Q3.cell 1
          have z2 := Q3.cell 2
          have z3 := Q3.cell 3
          have z4 := Q3.cell 4
          have z5 := Q3.cell 5
          have zf0 := Q3.fr 0
          have zf1 := Q3.fr 1
          have zf2 := Q3.fr 2
          have zf3 := Q3.fr 3
          have zf4 := Q3.fr 4
          have zf5 := Q3.fr 5
          have zlt := Q3.lt
          simp only [List.getElem?_toArray, List.getElem?_cons_zero, List.getElem?_cons_succ] at z0 z1 z2 z3 z4 z5
          have FB := Lib.hid ((setB_box Q3 (.int .i64 b.me) (.slice p1 q1 s1) (.slice p2 q2 s2) (.slice p3 q3 s3) (.slice t1 tn t2) (.slice p5 q5 s5)).on (Below.refl _ _).drew)
          have FC := Lib.hid ((MC.out.but (but_setB w9 (w.heap.size + 1 + 1) (.int .i64 b.me) (.slice p1 q1 s1) (.slice p2 q2 s2) (.slice p3 q3 s3) (.slice t1 tn t2) (.slice p5 q5 s5)) Q3).grow (Below.refl _ _).drew)
          have FL := Lib.hid (setB_below (b := w.heap.size + 1 + 1) ML.out (by omega) (.int .i64 b.me) (.slice p1 q1 s1) (.slice p2 q2 s2) (.slice p3 q3 s3) (.slice t1 tn t2) (.slice p5 q5 s5)).drew
          clear Q1 Q2 Q3 NC MC M2 M3 ML
          go_wp2
          go_region
          all_goals simp only [Exit.then]
          all_goals apply_assumption
          all_goals
            clear x0 x1 x2 x3 x4 x5
            clear z0 z1 z2 z3 z4 z5 zf0 zf1 zf2 zf3 zf4 zf5 zlt
            clear d6
            unfold setB at FB FC FL
            generalize (((((((w9).setCell ⟨w.heap.size + 1 + 1, 0, none⟩ (.int .i64 b.me)).setCell ⟨w.heap.size + 1 + 1, 1, none⟩ (.slice p1 q1 s1)).setCell ⟨w.heap.size + 1 + 1, 2, none⟩ (.slice p2 q2 s2)).setCell ⟨w.heap.size + 1 + 1, 3, none⟩ (.slice p3 q3 s3)).setCell ⟨w.heap.size + 1 + 1, 4, none⟩ (.slice t1 tn t2)).setCell ⟨w.heap.size + 1 + 1, 5, none⟩ (.slice p5 q5 s5)).drew = wz at *
            have v0 := FB.out.cell 0
            have v1 := FB.out.cell 1
            have v2 := FB.out.cell 2
            have v3 := FB.out.cell 3
            have v4 := FB.out.cell 4
            have v5 := FB.out.cell 5
            simp at v0 v1 v2 v3 v4 v5
            go_wp2
            refine bodyPost_ret (v := .tuple #[.agg #[.int .i64 b.me, .slice p1 q1 s1, .slice p2 q2 s2, .slice p3 q3 s3, .slice t1 tn t2, .slice p5 q5 s5], .bool (!cv)]) (by simp [results, Try.results9, go_sem, v0, v1, v2, v3, v4, v5]) rfl ?_
            rw [LQ.out]
            exact ⟨⟨(p1, q1, s1), (p2, q2, s2), (p3, q3, s3), (t1, tn, t2), (p5, q5, s5), rfl, FC.out.br FL.out, fun _ => ⟨_, FC.out.near⟩⟩, FL.out⟩
        · have LQ := Lib.hid (show addB b e = (b, false) from by
            rw [← addF_eq HR.out]
            unfold addF
            obtain ⟨a, h0, h1⟩ : ∃ a, findA b.adv e.tree = some a ∧ r4 = a.par := by
              rw [ET.out]
              rcases HI.out with ⟨h, _⟩ | ⟨_, h⟩
              · cases h
              · exact h
            rw [h0]
            simp only
            rw [if_neg (by rw [ET.out, ES.out, TH.out]; simp), if_pos ?_]
            refine ⟨?_, ?_⟩
            · rw [EF.out, ← h1]
              have := FQ.out
              simpa using this
            · rw [← h1]
              have := RT.out
              simpa using this)
          have Q1 := T1.out
          have Q3 := T3.out
          have x0 := Q1.cell 0
          have x1 := Q1.cell 1
          have x2 := Q1.cell 2
          have x3 := Q1.cell 3
          have x4 := Q1.cell 4
          have x5 := Q1.cell 5
          simp only [List.getElem?_toArray, List.getElem?_cons_zero, List.getElem?_cons_succ] at x0 x1 x2 x3 x4 x5
          have z0 := Q3.cell 0
          have z1 := Q3.cell 1
          have z2 := Q3.cell 2
          have z3 := Q3.cell 3
          have z4 := Q3.cell 4
          have z5 := Q3.cell 5
          have zf0 := Q3.fr 0
          have zf1 := Q3.fr 1
          have zf2 := Q3.fr 2
          have zf3 := Q3.fr 3
          have zf4 := Q3.fr 4
          have zf5 := Q3.fr 5
          have zlt := Q3.lt
          simp only [List.getElem?_toArray, List.getElem?_cons_zero, List.getElem?_cons_succ] at z0 z1 z2 z3 z4 z5
          have FB := Lib.hid (setB_box Q3 (.int .i64 b.me) (.slice no nn nc) (.slice ao an ac) (.slice so sn sc) (.slice eo en ec) (.slice oo on_ oc))
          have FL := Lib.hid (setB_below (b := w.heap.size + 1 + 1) BW.out (by omega) (.int .i64 b.me) (.slice no nn nc) (.slice ao an ac) (.slice so sn sc) (.slice eo en ec) (.slice oo on_ oc))
          clear Q1 Q3
          go_wp2_with fail
          clear z0 z1 z2 z3 z4 z5
          have v0 := FB.out.cell 0
          have v1 := FB.out.cell 1
          have v2 := FB.out.cell 2
          have v3 := FB.out.cell 3
          have v4 := FB.out.cell 4
          have v5 := FB.out.cell 5
          simp at v0 v1 v2 v3 v4 v5
          refine bodyPost_ret (v := .tuple #[.agg #[.int .i64 b.me, .slice no nn nc, .slice ao an ac, .slice so sn sc, .slice eo en ec, .slice oo on_ oc], .bool false]) (by simp [results, Try.results9, go_sem, v0, v1, v2, v3, v4, v5]) rfl ?_
          rw [LQ.out]
          exact ⟨⟨(no, nn, nc), (ao, an, ac), (so, sn, sc), (eo, en, ec), (oo, on_, oc), rfl, HH.out.on FL.out, fun h => h.on FL.out⟩, FL.out⟩
      · cases fq
        all_goals
          have x0 := T2.out.cell 0
          have x1 := T2.out.cell 1
          have x2 := T2.out.cell 2
          have x3 := T2.out.cell 3
          have x4 := T2.out.cell 4
          have x6 := T2.out.cell 6
          simp only [List.getElem?_toArray, List.getElem?_cons_zero, List.getElem?_cons_succ] at x0 x1 x2 x3 x4 x6
          have PE := Lib.hid (show RowC w3 (.slice yo yn yc) e.p from (EE.out.2.2.2.2).on BW.out)
          have CP := Lib.hid (cpE_any (y1, y2, y3, y4, (yo, yn, yc), y6, y7) e.p w3 PE.out (predOk_len OE.out))
          go_wp2_with fail
          refine CP.out.mono ?_
          rintro e4 w3b ⟨⟨⟨u1, u2, u3⟩, rfl, ho⟩, hb⟩
          clear x0 x1 x2 x3 x4 x6
          clear a3 d5
          have V2 := T2.out.on hb
          have x0 := V2.cell 0
          have x1 := V2.cell 1
          have x2 := V2.cell 2
          have x3 := V2.cell 3
          have x4 := V2.cell 4
          have x5 := V2.cell 5
          have x6 := V2.cell 6
          have xf0 := V2.fr 0
          have xf1 := V2.fr 1
          have xf2 := V2.fr 2
          have xf3 := V2.fr 3
          have xf4 := V2.fr 4
          have xf5 := V2.fr 5
          have xf6 := V2.fr 6
          have xlt := V2.lt
          simp only [List.getElem?_toArray, List.getElem?_cons_zero, List.getElem?_cons_succ] at x0 x1 x2 x3 x4 x5 x6
          have bs := but_setE w3b (w.heap.size + 1) (.int .i64 y1) (.int .i64 y2) (.int .i64 y3) (.int .i64 y4) (.slice u1 u2 u3) (.int .i64 y6) (.bool y7)
          have E2 := Lib.hid (setE_box V2 (.int .i64 y1) (.int .i64 y2) (.int .i64 y3) (.int .i64 y4) (.slice u1 u2 u3) (.int .i64 y6) (.bool y7))
          have E1 := Lib.hid (bs.box (T1.out.on hb) (by omega))
          have E3 := Lib.hid (bs.box (T3.out.on hb) (by omega))
          have EO := Lib.hid (bs.own ho V2 (by decide))
          have EL := Lib.hid (setE_below (b := w.heap.size + 1) (BW.out.trans (hb.mono BW.out.size)) (by omega) (.int .i64 y1) (.int .i64 y2) (.int .i64 y3) (.int .i64 y4) (.slice u1 u2 u3) (.int .i64 y6) (.bool y7))
          have ES2 := Lib.hid (show w3.heap.size ≤ (setE w3b (w.heap.size + 1) (.int .i64 y1) (.int .i64 y2) (.int .i64 y3) (.int .i64 y4) (.slice u1 u2 u3) (.int .i64 y6) (.bool y7)).heap.size by have := hb.size; simp; omega)
          have L4 := Lib.hid (show w.heap.size + 1 + 1 < w3.heap.size from T3.out.lt)
          clear V2 ho hb CP T1 T2 T3 BW bs
          go_upto_region 7 with fail
          clear x0 x1 x2 x3 x4 x5 x6 xf0 xf1 xf2 xf3 xf4 xf5 xf6 xlt
          unfold setE at E2 E1 E3 EO EL ES2
          generalize (((((((w3b).setCell ⟨w.heap.size + 1, 0, none⟩ (.int .i64 y1)).setCell ⟨w.heap.size + 1, 1, none⟩ (.int .i64 y2)).setCell ⟨w.heap.size + 1, 2, none⟩ (.int .i64 y3)).setCell ⟨w.heap.size + 1, 3, none⟩ (.int .i64 y4)).setCell ⟨w.heap.size + 1, 4, none⟩ (.slice u1 u2 u3)).setCell ⟨w.heap.size + 1, 5, none⟩ (.int .i64 y6)).setCell ⟨w.heap.size + 1, 6, none⟩ (.bool y7) = w4b at *
          have x6 := E2.out.cell 6
          have xf6 := E2.out.fr 6
          have xlt := E2.out.lt
          simp only [List.getElem?_toArray, List.getElem?_cons_zero, List.getElem?_cons_succ] at x6
          have bs := but_cell w4b (w.heap.size + 1) 6 (.bool false)
          have T2 := Lib.hid (show Box (w4b.setCell ⟨w.heap.size + 1, 6, none⟩ (.bool false)) (w.heap.size + 1) #[.int .i64 y1, .int .i64 y2, .int .i64 y3, .int .i64 y4, .slice u1 u2 u3, .int .i64 y6, .bool false] 42 by simpa using box_set (k := 6) E2.out (.bool false))
          have T1 := Lib.hid (bs.box E1.out (by omega))
          have T3 := Lib.hid (bs.box E3.out (by omega))
          have OC := Lib.hid (bs.own EO.out E2.out (by decide))
          have BW := Lib.hid (EL.out.setCell (p := ⟨w.heap.size + 1, 6, none⟩) (by simp) (.bool false))
          have S45 := Lib.hid (show w3.heap.size ≤ (w4b.setCell ⟨w.heap.size + 1, 6, none⟩ (.bool false)).heap.size by have := ES2.out; simp; omega)
          clear bs E1 E2 E3 EO EL ES2
          go_upto_region 8 with fail
          clear x6 xf6 xlt
          generalize w4b.setCell ⟨w.heap.size + 1, 6, none⟩ (.bool false) = w5 at *
          have LQ := Lib.hid (show addB b e = ({ b with ent := insAt b.ent k { e with up := false } }, false) from by
            rw [← addF_eq HR.out]
            unfold addF
            obtain ⟨a, h0, h1⟩ : ∃ a, findA b.adv e.tree = some a ∧ r4 = a.par := by
              rw [ET.out]
              rcases HI.out with ⟨h, _⟩ | ⟨_, h⟩
              · cases h
              · exact h
            rw [h0]
            simp only
            rw [if_neg (by rw [ET.out, ES.out, TH.out]; simp), if_neg ?_, show placeP (b.ent.map keyE) (e.tree, e.sub) = k by rw [ET.out, ES.out]; exact HK.out, ← h1, RT.out]
            · rfl
            · rintro ⟨_, g⟩
              rw [← h1] at g
              have := RT.out
              simp at this
              exact g this)
          have Q1 := T1.out
          have x0 := Q1.cell 0
          have x1 := Q1.cell 1
          have x2 := Q1.cell 2
          have x3 := Q1.cell 3
          have x4 := Q1.cell 4
          have x5 := Q1.cell 5
          simp only [List.getElem?_toArray, List.getElem?_cons_zero, List.getElem?_cons_succ] at x0 x1 x2 x3 x4 x5
          clear Q1
          go_wp2_with fail
          refine (acopy_any b (no, nn, nc) (ao, an, ac) (so, sn, sc) (eo, en, ec) (oo, on_, oc) w w5 BW.out HH.out HF.out HP.out).mono ?_
          rintro e6 w6 ⟨⟨⟨p1, q1, s1⟩, ⟨p2, q2, s2⟩, ⟨p3, q3, s3⟩, ⟨p4, q4, s4⟩, ⟨p5, q5, s5⟩, rfl, cp⟩, hb6⟩
          clear x0 x1 x2 x3 x4 x5
          have V1 := T1.out.on hb6
          have V2 := Lib.hid (T2.out.on hb6)
          have V3 := Lib.hid (T3.out.on hb6)
          have x0 := V1.cell 0
          have x1 := V1.cell 1
          have x2 := V1.cell 2
          have x3 := V1.cell 3
          have x4 := V1.cell 4
          have x5 := V1.cell 5
          have xf0 := V1.fr 0
          have xf1 := V1.fr 1
          have xf2 := V1.fr 2
          have xf3 := V1.fr 3
          have xf4 := V1.fr 4
          have xf5 := V1.fr 5
          have xlt := V1.lt
          simp only [List.getElem?_toArray, List.getElem?_cons_zero, List.getElem?_cons_succ] at x0 x1 x2 x3 x4 x5
          have bs := but_setB w6 w.heap.size (.int .i64 b.me) (.slice p1 q1 s1) (.slice p2 q2 s2) (.slice p3 q3 s3) (.slice p4 q4 s4) (.slice p5 q5 s5)
          have FB := Lib.hid (setB_box V1 (.int .i64 b.me) (.slice p1 q1 s1) (.slice p2 q2 s2) (.slice p3 q3 s3) (.slice p4 q4 s4) (.slice p5 q5 s5))
          have FC := Lib.hid (Sb.Cp.less (cp.but bs V1) (show w3.heap.size ≤ w5.heap.size from S45.out))
          have FO := Lib.hid (bs.own (Bk.own_on OC.out hb6) V1 (by decide))
          have FL := Lib.hid (setB_below (b := w.heap.size) (BW.out.trans (hb6.mono BW.out.size)) (Nat.le_refl _) (.int .i64 b.me) (.slice p1 q1 s1) (.slice p2 q2 s2) (.slice p3 q3 s3) (.slice p4 q4 s4) (.slice p5 q5 s5))
          have F2 := Lib.hid (bs.box V2.out (by omega))
          have F3 := Lib.hid (bs.box V3.out (by omega))
          have SZ := Lib.hid (show w3.heap.size ≤ (setB w6 w.heap.size (.int .i64 b.me) (.slice p1 q1 s1) (.slice p2 q2 s2) (.slice p3 q3 s3) (.slice p4 q4 s4) (.slice p5 q5 s5)).heap.size by have := hb6.size; have := S45.out; simp; omega)
          clear V1 V2 V3 cp hb6 bs T1 T2 T3 OC BW
          go_upto_region 9 with fail
          clear x0 x1 x2 x3 x4 x5 xf0 xf1 xf2 xf3 xf4 xf5 xlt
          unfold setB at FB FC FL F2 F3 SZ FO
          generalize ((((((w6).setCell ⟨w.heap.size, 0, none⟩ (.int .i64 b.me)).setCell ⟨w.heap.size, 1, none⟩ (.slice p1 q1 s1)).setCell ⟨w.heap.size, 2, none⟩ (.slice p2 q2 s2)).setCell ⟨w.heap.size, 3, none⟩ (.slice p3 q3 s3)).setCell ⟨w.heap.size, 4, none⟩ (.slice p4 q4 s4)).setCell ⟨w.heap.size, 5, none⟩ (.slice p5 q5 s5) = w7 at *
          obtain ⟨le, hle1, hle2⟩ := FC.out.ent
          have HL1 := Lib.hid hle1
          have HL2 := Lib.hid hle2
          clear hle1 hle2
          have nb := newB w7 (.cells #[.int .i64 y1, .int .i64 y2, .int .i64 y3, .int .i64 y4, .slice u1 u2 u3, .int .i64 y6, .bool false] 42)
          have bx := box_new w7 #[.int .i64 y1, .int .i64 y2, .int .i64 y3, .int .i64 y4, .slice u1 u2 u3, .int .i64 y6, .bool false] 42
          have IN := Lib.hid (insert_anyN w3.heap.size (.slice p4 q4 s4) le k (y1, y2, y3, y4, (u1, u2, u3), y6, false) w7.heap.size _ (Bk.own_on HL1.out nb) bx (fun e => by
            obtain ⟨d, hd⟩ := tag_own HL1.out _ e
            have := hd.lt
            omega) (by rw [HL2.out.len]; exact KL.out) (by rw [HL2.out.len]; exact HF.out.ent) (Nat.le_trans SZ.out nb.size))
          have FB2 := Lib.hid (FB.out.on nb)
          have F22 := Lib.hid (F2.out.on nb)
          have F32 := Lib.hid (F3.out.on nb)
          have FO2 := Lib.hid (Bk.own_on FO.out nb)
          have FC2 := Lib.hid (FC.out.grow nb)
          have FL2 := Lib.hid (FL.out.trans (nb.mono FL.out.size))
          have HA2 := Lib.hid (HL2.out.mono fun _ _ q => q.grow nb)
          have HO2 := Lib.hid (tag_own (Bk.own_on HL1.out nb))
          have x4 := FB.out.cell 4
          simp only [List.getElem?_toArray, List.getElem?_cons_zero, List.getElem?_cons_succ] at x4
          have d0 := F2.out.cell 0
          have d1 := F2.out.cell 1
          have d2 := F2.out.cell 2
          have d3 := F2.out.cell 3
          have d4 := F2.out.cell 4
          have d5 := F2.out.cell 5
          have d6 := F2.out.cell 6
          simp only [List.getElem?_toArray, List.getElem?_cons_zero, List.getElem?_cons_succ] at d0 d1 d2 d3 d4 d5 d6
          clear nb bx
          go_wp2_with fail
          refine IN.out.mono ?_
          rintro e8 w8 ⟨v8, rfl, hown, hbel, hoth⟩
          clear x4
          clear d0 d1 d2 d3 d4 d5 d6
          generalize w7.alloc (.cells #[.int .i64 y1, .int .i64 y2, .int .i64 y3, .int .i64 y4, .slice u1 u2 u3, .int .i64 y6, .bool false] 42) = w7a at *
          obtain ⟨t1, t2, hv8⟩ := (Row.of_own hown).len
          subst hv8
          generalize (le.take k ++ (y1, y2, y3, y4, (u1, u2, u3), y6, false) :: le.drop k).length = tn at *
          have hoff : Off (Value.slice p4 q4 s4).ownBlock w7a w8 := ⟨hoth, hbel.size⟩
          have CP := Lib.hid (FC2.out.offN (ev' := (t1, tn, t2)) (el := insAt b.ent k { e with up := false }) hoff ⟨insAt le k (y1, y2, y3, y4, (u1, u2, u3), y6, false), by unfold insAt; rw [List.append_assoc]; exact hown, all2_ins (HA2.out.mono fun _ _ q => q.off hoff HO2.out (by decide)) k ⟨EE.out.1, EE.out.2.1, EE.out.2.2.1, rfl, Or.inr (hoff.own FO2.out HO2.out (by decide))⟩⟩)
          have G1 := hoff.box FB2.out HO2.out (by decide)
          have G3 := hoff.box F32.out HO2.out (by decide)
          have G2 := Lib.hid (show Box w8 (w.heap.size + 1) #[.int .i64 y1, .int .i64 y2, .int .i64 y3, .int .i64 y4, .slice u1 u2 u3, .int .i64 y6, .bool false] 42 from (hoth _ F22.out.lt (fun e => by
            have := own_blk HL1.out _ e.symm
            have := L4.out
            omega)).trans F22.out)
          have NC := Lib.hid (show Box (w8.setCell ⟨w.heap.size, 4, none⟩ (.slice t1 tn t2)) w.heap.size #[.int .i64 b.me, .slice p1 q1 s1, .slice p2 q2 s2, .slice p3 q3 s3, .slice t1 tn t2, .slice p5 q5 s5] 34 by simpa using box_set (k := 4) G1 (.slice t1 tn t2))
          have MC := Lib.hid (CP.out.but (but_cell w8 w.heap.size 4 (.slice t1 tn t2)) G1)
          have M3 := Lib.hid ((but_cell w8 w.heap.size 4 (.slice t1 tn t2)).box G3 (by omega))
          have M2 := Lib.hid ((but_cell w8 w.heap.size 4 (.slice t1 tn t2)).box G2.out (by omega))
          have ML := Lib.hid (show Below w.heap.size w (w8.setCell ⟨w.heap.size, 4, none⟩ (.slice t1 tn t2)) from (FL2.out.trans (hbel.mono (by have := L4.out; omega))).setCell (p := ⟨w.heap.size, 4, none⟩) (Nat.le_refl _) _)
          have x4 := G1.cell 4
          have xf4 := G1.fr 4
          have xlt := G1.lt
          simp only [List.getElem?_toArray, List.getElem?_cons_zero, List.getElem?_cons_succ] at x4
          clear hown hbel hoth hoff G1 G2 G3 CP FB FB2 FC FC2 FO FO2 F2 F22 F3 F32 FL FL2 HL1 HL2 HA2 HO2 IN SZ
          go_upto_region 10 with fail
          clear x4 xf4 xlt
          generalize w8.setCell ⟨w.heap.size, 4, none⟩ (.slice t1 tn t2) = w9 at *
          have Q1 := NC.out
          have Q2 := M2.out
          have Q3 := M3.out
          have x0 := Q1.cell 0
          have x1 := Q1.cell 1
          have x2 := Q1.cell 2
          have x3 := Q1.cell 3
          have x4 := Q1.cell 4
          have x5 := Q1.cell 5
          simp only [List.getElem?_toArray, List.getElem?_cons_zero, List.getElem?_cons_succ] at x0 x1 x2 x3 x4 x5
          have d6 := Q2.cell 6
          simp only [List.getElem?_toArray, List.getElem?_cons_zero, List.getElem?_cons_succ] at d6
          have z0 := Q3.cell 0
          have z1 := Q3.cell 1
          have z2 := Q3.cell 2
          have z3 := Q3.cell 3
          have z4 := Q3.cell 4
          have z5 := Q3.cell 5
          have zf0 := Q3.fr 0
          have zf1 := Q3.fr 1
          have zf2 := Q3.fr 2
          have zf3 := Q3.fr 3
          have zf4 := Q3.fr 4
          have zf5 := Q3.fr 5
          have zlt := Q3.lt
          simp only [List.getElem?_toArray, List.getElem?_cons_zero, List.getElem?_cons_succ] at z0 z1 z2 z3 z4 z5
          have FB := Lib.hid ((setB_box Q3 (.int .i64 b.me) (.slice p1 q1 s1) (.slice p2 q2 s2) (.slice p3 q3 s3) (.slice t1 tn t2) (.slice p5 q5 s5)).on (Below.refl _ _).drew)
          have FC := Lib.hid ((MC.out.but (but_setB w9 (w.heap.size + 1 + 1) (.int .i64 b.me) (.slice p1 q1 s1) (.slice p2 q2 s2) (.slice p3 q3 s3) (.slice t1 tn t2) (.slice p5 q5 s5)) Q3).grow (Below.refl _ _).drew)
          have FL := Lib.hid (setB_below (b := w.heap.size + 1 + 1) ML.out (by omega) (.int .i64 b.me) (.slice p1 q1 s1) (.slice p2 q2 s2) (.slice p3 q3 s3) (.slice t1 tn t2) (.slice p5 q5 s5)).drew
          clear Q1 Q2 Q3 NC MC M2 M3 ML
          go_wp2
          go_region
          all_goals simp only [Exit.then]
          all_goals apply_assumption
          all_goals
            clear x0 x1 x2 x3 x4 x5
            clear z0 z1 z2 z3 z4 z5 zf0 zf1 zf2 zf3 zf4 zf5 zlt
            clear d6
            unfold setB at FB FC FL
            generalize (((((((w9).setCell ⟨w.heap.size + 1 + 1, 0, none⟩ (.int .i64 b.me)).setCell ⟨w.heap.size + 1 + 1, 1, none⟩ (.slice p1 q1 s1)).setCell ⟨w.heap.size + 1 + 1, 2, none⟩ (.slice p2 q2 s2)).setCell ⟨w.heap.size + 1 + 1, 3, none⟩ (.slice p3 q3 s3)).setCell ⟨w.heap.size + 1 + 1, 4, none⟩ (.slice t1 tn t2)).setCell ⟨w.heap.size + 1 + 1, 5, none⟩ (.slice p5 q5 s5)).drew = wz at *
            have v0 := FB.out.cell 0
            have v1 := FB.out.cell 1
            have v2 := FB.out.cell 2
            have v3 := FB.out.cell 3
            have v4 := FB.out.cell 4
            have v5 := FB.out.cell 5
            simp at v0 v1 v2 v3 v4 v5
            go_wp2
            refine bodyPost_ret (v := .tuple #[.agg #[.int .i64 b.me, .slice p1 q1 s1, .slice p2 q2 s2, .slice p3 q3 s3, .slice t1 tn t2, .slice p5 q5 s5], .bool false]) (by simp [results, Try.results9, go_sem, v0, v1, v2, v3, v4, v5]) rfl ?_
            rw [LQ.out]
            exact ⟨⟨(p1, q1, s1), (p2, q2, s2), (p3, q3, s3), (t1, tn, t2), (p5, q5, s5), rfl, FC.out.br FL.out, fun _ => ⟨_, FC.out.near⟩⟩, FL.out⟩
    · have LQ := Lib.hid (show addB b e = (b, false) from by
        rw [← addF_eq HR.out]
        unfold addF
        obtain ⟨a, h0, h1⟩ : ∃ a, findA b.adv e.tree = some a ∧ r4 = a.par := by
          rw [ET.out]
          rcases HI.out with ⟨h, _⟩ | ⟨_, h⟩
          · cases h
          · exact h
        rw [h0]
        simp only
        rw [if_pos (by rw [ET.out, ES.out, TH.out])])
      have Q1 := T1.out
      have Q3 := T3.out
      have x0 := Q1.cell 0
      have x1 := Q1.cell 1
      have x2 := Q1.cell 2
      have x3 := Q1.cell 3
      have x4 := Q1.cell 4
      have x5 := Q1.cell 5
      simp only [List.getElem?_toArray, List.getElem?_cons_zero, List.getElem?_cons_succ] at x0 x1 x2 x3 x4 x5
      have z0 := Q3.cell 0
      have z1 := Q3.cell 1
      have z2 := Q3.cell 2
      have z3 := Q3.cell 3
      have z4 := Q3.cell 4
      have z5 := Q3.cell 5
      have zf0 := Q3.fr 0
      have zf1 := Q3.fr 1
      have zf2 := Q3.fr 2
      have zf3 := Q3.fr 3
      have zf4 := Q3.fr 4
      have zf5 := Q3.fr 5
      have zlt := Q3.lt
      simp only [List.getElem?_toArray, List.getElem?_cons_zero, List.getElem?_cons_succ] at z0 z1 z2 z3 z4 z5
      have FB := Lib.hid (setB_box Q3 (.int .i64 b.me) (.slice no nn nc) (.slice ao an ac) (.slice so sn sc) (.slice eo en ec) (.slice oo on_ oc))
      have FL := Lib.hid (setB_below (b := w.heap.size + 1 + 1) BW.out (by omega) (.int .i64 b.me) (.slice no nn nc) (.slice ao an ac) (.slice so sn sc) (.slice eo en ec) (.slice oo on_ oc))
      clear Q1 Q3
      go_wp2_with fail
      clear z0 z1 z2 z3 z4 z5
      have v0 := FB.out.cell 0
      have v1 := FB.out.cell 1
      have v2 := FB.out.cell 2
      have v3 := FB.out.cell 3
      have v4 := FB.out.cell 4
      have v5 := FB.out.cell 5
      simp at v0 v1 v2 v3 v4 v5
      refine bodyPost_ret (v := .tuple #[.agg #[.int .i64 b.me, .slice no nn nc, .slice ao an ac, .slice so sn sc, .slice eo en ec, .slice oo on_ oc], .bool false]) (by simp [results, Try.results9, go_sem, v0, v1, v2, v3, v4, v5]) rfl ?_
      rw [LQ.out]
      exact ⟨⟨(no, nn, nc), (ao, an, ac), (so, sn, sc), (eo, en, ec), (oo, on_, oc), rfl, HH.out.on FL.out, fun h => h.on FL.out⟩, FL.out⟩
end Go.Proofs.Ytncogjpmboglhaa.Sb
