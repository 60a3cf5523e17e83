/-
  Learn of package adverts: a broker with one advertisement more, if it was not seen. Conditions: at most 900 of each, its rows rise.
  Forget of package adverts: a broker without one advertisement, and its tree's entries. Conditions: at most 900 of each, its rows rise.
-/
import Derived.Test.YtonoadjmglkhaaaGreatU026
import Derived.Test.YtonoadjmglkhaaaGreatU024
import Derived.Test.YtonoadjmglkhaaaGreatU025
namespace Go.Proofs.YtonoadjmglkhaaaGreat.Av
open Go.RowKit Go.Sort Go.Proofs.YtonoadjmglkhaaaGreat Go.Proofs.YtonoadjmglkhaaaGreat.Rw Go.Proofs.YtonoadjmglkhaaaGreat.Nm Go.Proofs.YtonoadjmglkhaaaGreat.Pr Go.Proofs.YtonoadjmglkhaaaGreat.Bk

abbrev RiseA (l : List Ad) : Prop := RiseK Ad.id l
abbrev RiseI (l : List XID) : Prop := RiseK (fun x : XID => x) l
/-- A broker's neighbours lie in a row of their own kind. -/
def NearOwn (W : World) (nv : Sl) (l : List Int) : Prop := ∃ B, OwnI W B (slv nv) l
theorem NearOwn.on {W W' : World} {nv : Sl} {l : List Int} (h : NearOwn W nv l) (hb : Below W.heap.size W W') : NearOwn W' nv l := by obtain ⟨B, h⟩ := h; exact ⟨B, Bk.own_on h hb⟩
/-- A broker, changed, and whether it was. -/
def LearnQ (W : World) (P : Prop) (r : Br × Bool) (e : Ending) (w' : World) : Prop := (∃ nv av sv ev ov : Sl, e = .returned (.tuple #[brv r.1.me nv av sv ev ov, .bool r.2]) ∧ BrIn w' r.1 nv av sv ev ov ∧ (P → NearOwn w' nv r.1.near)) ∧ Below W.heap.size W w'
theorem learnB_in {b : Br} {a : Ad} (h : a.id ∈ b.seen) : learnB b a = (b, false) := by unfold learnB; rw [if_pos h]
theorem learnB_out {b : Br} {a : Ad} (h : ¬ a.id ∈ b.seen) : learnB b a = ({ b with seen := insAt b.seen (placeI b.seen a.id) a.id, adv := insAt b.adv (placeI (b.adv.map Ad.id) a.id) a }, true) := by unfold learnB; rw [if_neg h]
set_option maxRecDepth 100000 in
set_option maxHeartbeats 32000000 in
theorem learn_any (b : Br) (a : Ad) (nv av sv ev ov : Sl) (x : XAd) (w : World) (h : BrIn w b nv av sv ev ov) (ha : AdIn w x a) (hf : Few b) (hp : FewP b) (hla : a.p.length ≤ 900) (hr1 : RiseI b.seen) (hr2 : RiseA b.adv) :
    Calls Tryz.prog 10 #[brv b.me nv av sv ev ov, valD x] w (LearnQ w (NearOwn w nv b.near) (learnB b a)) := by
  obtain ⟨no, nn, nc⟩ := nv
  obtain ⟨ao, an, ac⟩ := av
  obtain ⟨so, sn, sc⟩ := sv
  obtain ⟨eo, en, ec⟩ := ev
  obtain ⟨oo, on_, oc⟩ := ov
  obtain ⟨y1, y2, ⟨yo, yn, yc⟩, y4⟩ := x
  obtain ⟨h0, h1, h2⟩ := two_new w #[.int .i64 b.me, .slice no nn nc, .slice ao an ac, .slice so sn sc, .slice eo en ec, .slice oo on_ oc] #[.int .i64 y1, .int .i64 y2, .slice yo yn yc, .int .i64 y4] 29 42
  have h3 := newB ((w.alloc (.cells #[.int .i64 b.me, .slice no nn nc, .slice ao an ac, .slice so sn sc, .slice eo en ec, .slice oo on_ oc] 29)).alloc (.cells #[.int .i64 y1, .int .i64 y2, .slice yo yn yc, .int .i64 y4] 42)) (.cells #[.int .i64 0, .slice none 0 0, .slice none 0 0, .slice none 0 0, .slice none 0 0, .slice none 0 0] 29)
  have h4 := box_new ((w.alloc (.cells #[.int .i64 b.me, .slice no nn nc, .slice ao an ac, .slice so sn sc, .slice eo en ec, .slice oo on_ oc] 29)).alloc (.cells #[.int .i64 y1, .int .i64 y2, .slice yo yn yc, .int .i64 y4] 42)) #[.int .i64 0, .slice none 0 0, .slice none 0 0, .slice none 0 0, .slice none 0 0, .slice none 0 0] 29
  have hsz : ((w.alloc (.cells #[.int .i64 b.me, .slice no nn nc, .slice ao an ac, .slice so sn sc, .slice eo en ec, .slice oo on_ oc] 29)).alloc (.cells #[.int .i64 y1, .int .i64 y2, .slice yo yn yc, .int .i64 y4] 42)).heap.size = w.heap.size + 1 + 1 := by simp
  rw [hsz] at h4
  have BB := Lib.hid (h0.trans (h3.mono h0.size))
  have X1 := Lib.hid (h1.on h3)
  have X2 := Lib.hid (h2.on h3)
  have X3 := Lib.hid h4
  have HH := Lib.hid h
  have HA := Lib.hid ha
  have HF := Lib.hid hf
  have HP := Lib.hid hp
  have LA := Lib.hid hla
  have R1 := Lib.hid hr1
  have R2 := Lib.hid hr2
  have ei : a.id = (y1, y2) := ha.1.symm
  have SW := Lib.hid (aseen_any b.me (.slice no nn nc) (.slice ao an ac) (.slice eo en ec) (.slice oo on_ oc) (so, sn, sc) b.seen (y1, y2) _ (h.seen.on BB.out))
  obtain ⟨r, hr⟩ : ∃ r, decide ((y1, y2) ∈ b.seen) = r := ⟨_, rfl⟩
  rw [hr] at SW
  have HR := Lib.hid hr
  have EI := Lib.hid ei
  have x0 := X1.out.cell 0
  have x1 := X1.out.cell 1
  have x2 := X1.out.cell 2
  have x3 := X1.out.cell 3
  have x4 := X1.out.cell 4
  have x5 := X1.out.cell 5
  have d0 := X2.out.cell 0
  have d1 := X2.out.cell 1
  have d2 := X2.out.cell 2
  have d3 := X2.out.cell 3
  have z0 := X3.out.cell 0
  have z1 := X3.out.cell 1
  have z2 := X3.out.cell 2
  have z3 := X3.out.cell 3
  have z4 := X3.out.cell 4
  have z5 := X3.out.cell 5
  have t0 := X3.out.fr 0
  have t1 := X3.out.fr 1
  have t2 := X3.out.fr 2
  have t3 := X3.out.fr 3
  have t4 := X3.out.fr 4
  have t5 := X3.out.fr 5
  simp only [List.getElem?_toArray, List.getElem?_cons_zero, List.getElem?_cons_succ] at x0 x1 x2 x3 x4 x5 d0 d1 d2 d3 z0 z1 z2 z3 z4 z5
  have zz := X3.out.lt
  clear h0 h1 h2 h3 h4 hsz h ha hf hp hla hr1 hr2 hr ei
  go_enter Tryz.func10, Tryz.ntmps10
  go_wp2_with fail
  generalize ((w.alloc (.cells #[.int .i64 b.me, .slice no nn nc, .slice ao an ac, .slice so sn sc, .slice eo en ec, .slice oo on_ oc] 29)).alloc (.cells #[.int .i64 y1, .int .i64 y2, .slice yo yn yc, .int .i64 y4] 42)).alloc (.cells #[.int .i64 0, .slice none 0 0, .slice none 0 0, .slice none 0 0, .slice none 0 0, .slice none 0 0] 29) = W at *
  refine SW.out.mono ?_
  rintro e1 w1 ⟨rfl, hb⟩
  have B1 := Lib.hid (BB.out.trans (hb.mono BB.out.size))
  have Y1 := X1.out.on hb
  have Y2 := X2.out.on hb
  have Y3 := X3.out.on hb
  clear SW hb x0 x1 x2 x3 x4 x5 d0 d1 d2 d3 z0 z1 z2 z3 z4 z5 t0 t1 t2 t3 t4 t5 zz X1 X2 X3
  have x0 := Y1.cell 0
  have x1 := Y1.cell 1
  have x2 := Y1.cell 2
  have x3 := Y1.cell 3
  have x4 := Y1.cell 4
  have x5 := Y1.cell 5
  have z0 := Y3.cell 0
  have z1 := Y3.cell 1
  have z2 := Y3.cell 2
  have z3 := Y3.cell 3
  have z4 := Y3.cell 4
  have z5 := Y3.cell 5
  have t0 := Y3.fr 0
  have t1 := Y3.fr 1
  have t2 := Y3.fr 2
  have t3 := Y3.fr 3
  have t4 := Y3.fr 4
  have t5 := Y3.fr 5
  simp only [List.getElem?_toArray, List.getElem?_cons_zero, List.getElem?_cons_succ] at x0 x1 x2 x3 x4 x5 z0 z1 z2 z3 z4 z5
  have zz := Y3.lt
  cases r
  · have nin : ¬ a.id ∈ b.seen := by rw [EI.out]; exact of_decide_eq_false HR.out
    have LQ := Lib.hid (learnB_out nin)
    have Z1 := Lib.hid Y1
    have Z2 := Lib.hid Y2
    have Z3 := Lib.hid Y3
    have L1 := Lib.hid Y1.lt
    have L3 := Lib.hid (show w.heap.size + 1 < w1.heap.size from Y2.lt)
    clear z0 z1 z2 z3 z4 z5 t0 t1 t2 t3 t4 t5 zz nin
    go_wp2_with fail
    refine (acopy_any b (no, nn, nc) (ao, an, ac) (so, sn, sc) (eo, en, ec) (oo, on_, oc) w w1 B1.out HH.out HF.out HP.out).mono ?_
    rintro e2 w2 ⟨⟨⟨p1, q1, s1⟩, ⟨p2, q2, s2⟩, ⟨p3, q3, s3⟩, ⟨p4, q4, s4⟩, ⟨p5, q5, s5⟩, rfl, cp⟩, hb2⟩
    have V1 := Z1.out.on hb2
    have V2 := Lib.hid (Z2.out.on hb2)
    have V3 := Lib.hid (Z3.out.on hb2)
    clear x0 x1 x2 x3 x4 x5
    have x0 := V1.cell 0
    have x1 := V1.cell 1
    have x2 := V1.cell 2
    have x3 := V1.cell 3
    have x4 := V1.cell 4
    have x5 := V1.cell 5
    have t0 := V1.fr 0
    have t1 := V1.fr 1
    have t2 := V1.fr 2
    have t3 := V1.fr 3
    have t4 := V1.fr 4
    have t5 := V1.fr 5
    simp only [List.getElem?_toArray, List.getElem?_cons_zero, List.getElem?_cons_succ] at x0 x1 x2 x3 x4 x5
    have zz := V1.lt
    have FB := Lib.hid (setB_box V1 (.int .i64 b.me) (.slice p1 q1 s1) (.slice p2 q2 s2) (.slice p3 q3 s3) (.slice p4 q4 s4) (.slice p5 q5 s5))
    have FC := Lib.hid (cp.but (but_setB w2 w.heap.size (.int .i64 b.me) (.slice p1 q1 s1) (.slice p2 q2 s2) (.slice p3 q3 s3) (.slice p4 q4 s4) (.slice p5 q5 s5)) V1)
    have FL := Lib.hid (setB_below (b := w.heap.size) (B1.out.trans (hb2.mono B1.out.size)) (Nat.le_refl _) (.int .i64 b.me) (.slice p1 q1 s1) (.slice p2 q2 s2) (.slice p3 q3 s3) (.slice p4 q4 s4) (.slice p5 q5 s5))
    have F2 := Lib.hid ((but_setB w2 w.heap.size (.int .i64 b.me) (.slice p1 q1 s1) (.slice p2 q2 s2) (.slice p3 q3 s3) (.slice p4 q4 s4) (.slice p5 q5 s5)).box V2.out (by omega))
    have F3 := Lib.hid ((but_setB w2 w.heap.size (.int .i64 b.me) (.slice p1 q1 s1) (.slice p2 q2 s2) (.slice p3 q3 s3) (.slice p4 q4 s4) (.slice p5 q5 s5)).box V3.out (by omega))
    have SZ := Lib.hid (show w1.heap.size ≤ (setB w2 w.heap.size (.int .i64 b.me) (.slice p1 q1 s1) (.slice p2 q2 s2) (.slice p3 q3 s3) (.slice p4 q4 s4) (.slice p5 q5 s5)).heap.size by have := hb2.size; simp; omega)
    have L2 := Lib.hid (show w.heap.size < w1.heap.size from L1.out)
    clear V1 V2 V3 cp hb2 Z1 Z2 Z3 L1
    go_upto_region 4 with fail
    clear x0 x1 x2 x3 x4 x5 t0 t1 t2 t3 t4 t5 zz
    unfold setB at FB FC FL F2 F3 SZ
    generalize ((((((w2).setCell ⟨w.heap.size, 0, none⟩ (.int .i64 b.me)).setCell ⟨w.heap.size, 1, none⟩ (.slice p1 q1 s1)).setCell ⟨w.heap.size, 2, none⟩ (.slice p2 q2 s2)).setCell ⟨w.heap.size, 3, none⟩ (.slice p3 q3 s3)).setCell ⟨w.heap.size, 4, none⟩ (.slice p4 q4 s4)).setCell ⟨w.heap.size, 5, none⟩ (.slice p5 q5 s5) = w3 at *
    obtain ⟨la, hla1, hla2⟩ := FC.out.adv
    have HL1 := Lib.hid hla1
    have HL2 := Lib.hid hla2
    have KE := Lib.hid (keys_eq hla2)
    clear hla1 hla2
    refine lrn4 _ w3 w1.heap.size la w.heap.size (w.heap.size + 1) b.me (.slice p1 q1 s1) p2 q2 s2 (.slice p3 q3 s3) (.slice p4 q4 s4) (.slice p5 q5 s5) y1 y2 yo yn yc y4 a.p _ _ _ _ _ _ _ _ _ _ _ _ _ _ _ _ _ _ _ _ _ _ _ _ FB.out F2.out HL1.out ?_ ?_ SZ.out L2.out (HA.out.2.2.on FL.out) LA.out ?_
    · rw [riseK_map, KE.out, ← riseK_map]; exact R2.out
    · rw [HL2.out.len]; exact HF.out.adv
    intro w4 v13 v14 v15 v16 v17 v18 s1' s2' s3' t1 t2 t3 hbx hown hc hoff hbel
    have CP2 := Lib.hid (FC.out.offD (av' := (t1, t2, t3)) (al := insAt b.adv (placeI (b.adv.map Ad.id) a.id) a) hoff ⟨_, hown, by
      have hg := tag_own HL1.out
      have h2 := HL2.out.mono fun _ _ q => q.off hoff hg (by decide)
      have hk : placeK keyD la (y1, y2) = placeI (b.adv.map Ad.id) a.id := by rw [placeK_map, KE.out, EI.out]
      rw [← hk]
      exact all2_ins h2 _ ⟨HA.out.1, HA.out.2.1, Or.inr (own_fewer hc SZ.out)⟩⟩)
    have G2 := Lib.hid (show Box w4 (w.heap.size + 1) _ _ from (hbel.block _ L3.out).trans F2.out)
    have G3 := Lib.hid (show Box w4 (w.heap.size + 1 + 1) _ _ from hoff.box F3.out (tag_own HL1.out) (by decide))
    have G1 := Lib.hid (show Box (w4.setCell ⟨w.heap.size, 2, none⟩ (.slice t1 t2 t3)) w.heap.size #[.int .i64 b.me, .slice p1 q1 s1, .slice t1 t2 t3, .slice p3 q3 s3, .slice p4 q4 s4, .slice p5 q5 s5] 29 by simpa using box_set (k := 2) hbx (.slice t1 t2 t3))
    have CP3 := Lib.hid (CP2.out.but (but_cell w4 w.heap.size 2 (.slice t1 t2 t3)) hbx)
    have G2' := Lib.hid ((but_cell w4 w.heap.size 2 (.slice t1 t2 t3)).box G2.out (by omega))
    have G3' := Lib.hid ((but_cell w4 w.heap.size 2 (.slice t1 t2 t3)).box G3.out (by omega))
    have GL := Lib.hid (show Below w.heap.size w (w4.setCell ⟨w.heap.size, 2, none⟩ (.slice t1 t2 t3)) from (FL.out.trans (hbel.mono (Nat.le_of_lt L2.out))).setCell (p := ⟨w.heap.size, 2, none⟩) (Nat.le_refl _) _)
    have GZ := Lib.hid (show w1.heap.size ≤ (w4.setCell ⟨w.heap.size, 2, none⟩ (.slice t1 t2 t3)).heap.size by have := SZ.out; have := hbel.size; simp; omega)
    clear hbx hown hc hoff hbel CP2 G2 G3 FB FC F2 F3 FL SZ HL1 HL2 KE
    generalize w4.setCell ⟨w.heap.size, 2, none⟩ (.slice t1 t2 t3) = w5 at *
    have x3 := G1.out.cell 3
    have d0 := G2'.out.cell 0
    have d1 := G2'.out.cell 1
    simp only [List.getElem?_toArray, List.getElem?_cons_zero, List.getElem?_cons_succ] at x3 d0 d1
    go_wp2_with fail
    refine (putJ_any w1.heap.size (p3, q3, s3) b.seen (y1, y2) w5 CP3.out.seen R1.out HF.out.seen GZ.out).mono ?_
    rintro e3 w6 ⟨⟨⟨r1, r2, r3⟩, rfl, hown⟩, hbel, hoth⟩
    have hoff : Off (slv (p3, q3, s3)).ownBlock w5 w6 := ⟨hoth, hbel.size⟩
    have CP4 := Lib.hid (CP3.out.offJ (sv' := (r1, r2, r3)) (sl := insAt b.seen (placeI b.seen a.id) a.id) hoff (by
      have hk : placeK keyJ b.seen (keyJ (y1, y2)) = placeI b.seen a.id := by rw [placeK_map, EI.out]; simp
      rw [← hk, EI.out]
      exact hown))
    have hg := tag_own CP3.out.seen
    have K1 := hoff.box G1.out hg (by decide)
    have K3 := hoff.box G3'.out hg (by decide)
    have KL := GL.out.trans (hbel.mono (Nat.le_of_lt L2.out))
    have M1 := Lib.hid (show Box (w6.setCell ⟨w.heap.size, 3, none⟩ (.slice r1 r2 r3)) w.heap.size #[.int .i64 b.me, .slice p1 q1 s1, .slice t1 t2 t3, .slice r1 r2 r3, .slice p4 q4 s4, .slice p5 q5 s5] 29 by simpa using box_set (k := 3) K1 (.slice r1 r2 r3))
    have M3 := Lib.hid ((but_cell w6 w.heap.size 3 (.slice r1 r2 r3)).box K3 (by omega))
    have MC := Lib.hid (CP4.out.but (but_cell w6 w.heap.size 3 (.slice r1 r2 r3)) K1)
    have ML := Lib.hid (show Below w.heap.size w (w6.setCell ⟨w.heap.size, 3, none⟩ (.slice r1 r2 r3)) from KL.setCell (p := ⟨w.heap.size, 3, none⟩) (Nat.le_refl _) _)
    clear x3 d0 d1
    have x3 := K1.cell 3
    have t3 := K1.fr 3
    have zz := K1.lt
    simp only [List.getElem?_toArray, List.getElem?_cons_zero, List.getElem?_cons_succ] at x3
    clear hown hbel hoth hoff hg K1 K3 KL CP4 CP3 G1 G2' G3' GL GZ
    go_upto_region 6 with fail
    clear x3 t3 zz
    generalize w6.setCell ⟨w.heap.size, 3, none⟩ (.slice r1 r2 r3) = w7 at *
    have U1 := M1.out
    have U3 := M3.out
    have x0 := U1.cell 0
    have x1 := U1.cell 1
    have x2 := U1.cell 2
    have x3 := U1.cell 3
    have x4 := U1.cell 4
    have x5 := U1.cell 5
    have z0 := U3.cell 0
    have z1 := U3.cell 1
    have z2 := U3.cell 2
    have z3 := U3.cell 3
    have z4 := U3.cell 4
    have z5 := U3.cell 5
    have f0 := U3.fr 0
    have f1 := U3.fr 1
    have f2 := U3.fr 2
    have f3 := U3.fr 3
    have f4 := U3.fr 4
    have f5 := U3.fr 5
    simp only [List.getElem?_toArray, List.getElem?_cons_zero, List.getElem?_cons_succ] at x0 x1 x2 x3 x4 x5 z0 z1 z2 z3 z4 z5
    have zz := U3.lt
    have FB := Lib.hid (setB_box U3 (.int .i64 b.me) (.slice p1 q1 s1) (.slice t1 t2 t3) (.slice r1 r2 r3) (.slice p4 q4 s4) (.slice p5 q5 s5))
    have FC := Lib.hid (MC.out.but (but_setB w7 (w.heap.size + 1 + 1) (.int .i64 b.me) (.slice p1 q1 s1) (.slice t1 t2 t3) (.slice r1 r2 r3) (.slice p4 q4 s4) (.slice p5 q5 s5)) U3)
    have FL := Lib.hid (setB_below (b := w.heap.size + 1 + 1) ML.out (by omega) (.int .i64 b.me) (.slice p1 q1 s1) (.slice t1 t2 t3) (.slice r1 r2 r3) (.slice p4 q4 s4) (.slice p5 q5 s5))
    clear U1 U3 M1 M3 MC ML
    go_wp2_with fail
    have v0 := FB.out.cell 0
    have v1 := FB.out.cell 1
    have v2 := FB.out.cell 2
    have v3 := FB.out.cell 3
    have v4 := FB.out.cell 4
    have v5 := FB.out.cell 5
    simp at v0 v1 v2 v3 v4 v5
    refine bodyPost_ret (v := .tuple #[.agg #[.int .i64 b.me, .slice p1 q1 s1, .slice t1 t2 t3, .slice r1 r2 r3, .slice p4 q4 s4, .slice p5 q5 s5], .bool true]) (by simp [results, Tryz.results10, go_sem, v0, v1, v2, v3, v4, v5]) rfl ?_
    rw [LQ.out]
    exact ⟨⟨(p1, q1, s1), (t1, t2, t3), (r1, r2, r3), (p4, q4, s4), (p5, q5, s5), rfl, FC.out.br FL.out, fun _ => ⟨_, FC.out.near⟩⟩, FL.out⟩
  · have hin : a.id ∈ b.seen := by rw [EI.out]; exact of_decide_eq_true HR.out
    have LQ := Lib.hid (learnB_in hin)
    have FB := Lib.hid (setB_box Y3 (.int .i64 b.me) (.slice no nn nc) (.slice ao an ac) (.slice so sn sc) (.slice eo en ec) (.slice oo on_ oc))
    have FL := Lib.hid (setB_below (b := w.heap.size + 1 + 1) B1.out (by omega) (.int .i64 b.me) (.slice no nn nc) (.slice ao an ac) (.slice so sn sc) (.slice eo en ec) (.slice oo on_ oc))
    clear hin Y1 Y2 Y3
    go_wp2_with fail
    have v0 := FB.out.cell 0
    have v1 := FB.out.cell 1
    have v2 := FB.out.cell 2
    have v3 := FB.out.cell 3
    have v4 := FB.out.cell 4
    have v5 := FB.out.cell 5
    simp at v0 v1 v2 v3 v4 v5
    refine bodyPost_ret (v := .tuple #[.agg #[.int .i64 b.me, .slice no nn nc, .slice ao an ac, .slice so sn sc, .slice eo en ec, .slice oo on_ oc], .bool false]) (by simp [results, Tryz.results10, go_sem, v0, v1, v2, v3, v4, v5]) rfl ?_
    rw [LQ.out]
    exact ⟨⟨(no, nn, nc), (ao, an, ac), (so, sn, sc), (eo, en, ec), (oo, on_, oc), rfl, HH.out.on FL.out, fun h => h.on FL.out⟩, FL.out⟩
end Go.Proofs.YtonoadjmglkhaaaGreat.Av

namespace Go.Proofs.YtonoadjmglkhaaaGreat.Av
open Go.RowKit Go.Sort Go.Proofs.YtonoadjmglkhaaaGreat Go.Proofs.YtonoadjmglkhaaaGreat.Rw Go.Proofs.YtonoadjmglkhaaaGreat.Nm Go.Proofs.YtonoadjmglkhaaaGreat.Pr Go.Proofs.YtonoadjmglkhaaaGreat.Bk

def forgetF (b : Br) (x : XID) (f : Int) : Br × Bool := match findA b.adv x with
  | none => (b, false)
  | some a => if a.par = f then ({ b with adv := b.adv.filter fun e => decide (e.id ≠ x), ent := b.ent.filter fun e => decide (e.tree ≠ x) }, true) else (b, false)
theorem filter_cut {al : List Ad} (hr : RiseA al) {k : Nat} {a : Ad} {x : XID} (hk : al[k]? = some a) (hx : a.id = x) : al.filter (fun e => decide (e.id ≠ x)) = cutAt al k := by
  subst hx
  unfold cutAt
  have h1 : al = al.take k ++ (a :: al.drop (k + 1)) := by
    have hlt := (List.getElem?_eq_some_iff.1 hk).1
    have he := (List.getElem?_eq_some_iff.1 hk).2
    rw [← he, List.getElem_cons_drop, List.take_append_drop]
  conv => lhs; rw [h1]
  rw [List.filter_append, List.filter_cons_of_neg (by simp)]
  have hp := List.pairwise_iff_getElem.1 hr
  have e1 : (al.take k).filter (fun e => decide (e.id ≠ a.id)) = al.take k := by
    rw [List.filter_eq_self]
    intro y hy
    obtain ⟨j, hj⟩ := List.mem_iff_getElem?.1 hy
    have hjl := (List.getElem?_eq_some_iff.1 hj).1
    rw [List.length_take] at hjl
    rw [List.getElem?_take_of_lt (by omega)] at hj
    have := riseK_lt hr (show j < k by omega) hj hk
    refine decide_eq_true fun e => ?_
    rw [e, lessI_irr] at this
    cases this
  have e2 : (al.drop (k + 1)).filter (fun e => decide (e.id ≠ a.id)) = al.drop (k + 1) := by
    rw [List.filter_eq_self]
    intro y hy
    obtain ⟨j, hj⟩ := List.mem_iff_getElem?.1 hy
    rw [List.getElem?_drop] at hj
    have := riseK_lt hr (show k < k + 1 + j by omega) hk hj
    refine decide_eq_true fun e => ?_
    rw [e, lessI_irr] at this
    cases this
  rw [e1, e2]
theorem forgetF_eq {b : Br} (hr : RiseA b.adv) (x : XID) (f : Int) : forgetF b x f = forgetB b x f := by
  unfold forgetF forgetB
  by_cases h : findI (b.adv.map Ad.id) x = -1
  · have hn : findA b.adv x = none := findA_none fun j a hj => findI_neg (key := Ad.id) h j a hj
    rw [hn]
    cases b.adv[(findI (b.adv.map Ad.id) x).toNat]? with
    | none => rfl
    | some a => simp only; rw [if_pos h]
  · obtain ⟨k, hk⟩ : ∃ k : Nat, findI (b.adv.map Ad.id) x = k := ⟨(findI (b.adv.map Ad.id) x).toNat, by have := findI_bd (b.adv.map Ad.id) x; omega⟩
    obtain ⟨g1, g2⟩ := findI_get hk
    rw [List.getElem?_map] at g1
    cases ha : b.adv[k]? with
    | none => rw [ha] at g1; cases g1
    | some a =>
      rw [ha] at g1
      have hx : a.id = x := Option.some.inj g1
      have hf : findA b.adv x = some a := findA_at ha hx fun j z hj hz => g2 j z.id hj (by rw [List.getElem?_map, hz]; rfl)
      rw [hf, hk, Int.toNat_natCast, ha]
      simp only
      rw [if_neg (show ¬ ((k : Int) = -1) by omega)]
      split
      · rw [filter_cut hr ha hx]
      · rfl
theorem all2_fil {α β : Type} {R : α → β → Prop} (p : α → Bool) (q : β → Bool) : ∀ {l : List α} {m : List β}, All2 R l m → (∀ a b, R a b → p a = q b) → All2 R (l.filter p) (m.filter q)
  | _, _, .nil, _ => .nil
  | _, _, .cons (a := a) (b := b) x t, h => by
    have e := h a b x
    rw [List.filter_cons, List.filter_cons, e]
    cases q b
    · exact all2_fil p q t h
    · exact .cons x (all2_fil p q t h)
set_option maxRecDepth 100000 in
set_option maxHeartbeats 32000000 in
theorem forget_any (b : Br) (x : XID) (f : Int) (nv av sv ev ov : Sl) (w : World) (h : BrIn w b nv av sv ev ov) (hf : Few b) (hp : FewP b) :
    Calls Tryz.prog 12 #[brv b.me nv av sv ev ov, idv x, .int .i64 f] w (LearnQ w (NearOwn w nv b.near) (forgetF b x f)) := by
  obtain ⟨no, nn, nc⟩ := nv
  obtain ⟨ao, an, ac⟩ := av
  obtain ⟨so, sn, sc⟩ := sv
  obtain ⟨eo, en, ec⟩ := ev
  obtain ⟨oo, on_, oc⟩ := ov
  obtain ⟨c, d⟩ := x
  obtain ⟨h0, h1, h2⟩ := two_new w #[.int .i64 b.me, .slice no nn nc, .slice ao an ac, .slice so sn sc, .slice eo en ec, .slice oo on_ oc] #[.int .i64 c, .int .i64 d] 29 37
  have h3 := newB ((w.alloc (.cells #[.int .i64 b.me, .slice no nn nc, .slice ao an ac, .slice so sn sc, .slice eo en ec, .slice oo on_ oc] 29)).alloc (.cells #[.int .i64 c, .int .i64 d] 37)) (.cells #[.int .i64 0, .slice none 0 0, .slice none 0 0, .slice none 0 0, .slice none 0 0, .slice none 0 0] 29)
  have h4 := box_new ((w.alloc (.cells #[.int .i64 b.me, .slice no nn nc, .slice ao an ac, .slice so sn sc, .slice eo en ec, .slice oo on_ oc] 29)).alloc (.cells #[.int .i64 c, .int .i64 d] 37)) #[.int .i64 0, .slice none 0 0, .slice none 0 0, .slice none 0 0, .slice none 0 0, .slice none 0 0] 29
  have hsz : ((w.alloc (.cells #[.int .i64 b.me, .slice no nn nc, .slice ao an ac, .slice so sn sc, .slice eo en ec, .slice oo on_ oc] 29)).alloc (.cells #[.int .i64 c, .int .i64 d] 37)).heap.size = w.heap.size + 1 + 1 := by simp
  rw [hsz] at h4
  have BB := Lib.hid (h0.trans (h3.mono h0.size))
  have X1 := Lib.hid (h1.on h3)
  have X2 := Lib.hid (h2.on h3)
  have X3 := Lib.hid h4
  have HH := Lib.hid h
  have HF := Lib.hid hf
  have HP := Lib.hid hp
  obtain ⟨la, ha1, ha2⟩ := h.adv
  have SW := Lib.hid (find_any b.me (.slice no nn nc) (.slice so sn sc) (.slice eo en ec) (.slice oo on_ oc) (ao, an, ac) la b.adv (c, d) _ (ha1.on BB.out) (ha2.mono fun _ _ q => q.on BB.out) hp.adv)
  obtain ⟨fa, hfa⟩ : ∃ fa, findA b.adv (c, d) = fa := ⟨_, rfl⟩
  rw [hfa] at SW
  have FA := Lib.hid hfa
  have x0 := X1.out.cell 0
  have x1 := X1.out.cell 1
  have x2 := X1.out.cell 2
  have x3 := X1.out.cell 3
  have x4 := X1.out.cell 4
  have x5 := X1.out.cell 5
  have d0 := X2.out.cell 0
  have d1 := X2.out.cell 1
  simp only [List.getElem?_toArray, List.getElem?_cons_zero, List.getElem?_cons_succ] at x0 x1 x2 x3 x4 x5 d0 d1
  clear h0 h1 h2 h3 h4 hsz h hf hp hfa ha1 ha2 la
  go_enter Tryz.func12, Tryz.ntmps12
  go_wp2_with fail
  generalize ((w.alloc (.cells #[.int .i64 b.me, .slice no nn nc, .slice ao an ac, .slice so sn sc, .slice eo en ec, .slice oo on_ oc] 29)).alloc (.cells #[.int .i64 c, .int .i64 d] 37)).alloc (.cells #[.int .i64 0, .slice none 0 0, .slice none 0 0, .slice none 0 0, .slice none 0 0, .slice none 0 0] 29) = W at *
  refine SW.out.mono ?_
  rintro e1 w1 ⟨hq, hb⟩
  have B1 := Lib.hid (BB.out.trans (hb.mono BB.out.size))
  have Z1 := Lib.hid (X1.out.on hb)
  have Z2 := Lib.hid (X2.out.on hb)
  have Z3 := Lib.hid (X3.out.on hb)
  clear SW hb x0 x1 x2 x3 x4 x5 d0 d1 X1 X2 X3
  cases fa with
  | none =>
    have LQ := Lib.hid (show forgetF b (c, d) f = (b, false) by unfold forgetF; rw [FA.out])
    subst hq
    have nb := newB w1 (.cells #[.int .i64 0, .int .i64 0, .slice none 0 0, .int .i64 0] 42)
    have B2 := Lib.hid (B1.out.trans (nb.mono B1.out.size))
    have Y1 := Z1.out.on nb
    have Y3 := Z3.out.on nb
    have x0 := Y1.cell 0
    have x1 := Y1.cell 1
    have x2 := Y1.cell 2
    have x3 := Y1.cell 3
    have x4 := Y1.cell 4
    have x5 := Y1.cell 5
    have z0 := Y3.cell 0
    have z1 := Y3.cell 1
    have z2 := Y3.cell 2
    have z3 := Y3.cell 3
    have z4 := Y3.cell 4
    have z5 := Y3.cell 5
    have t0 := Y3.fr 0
    have t1 := Y3.fr 1
    have t2 := Y3.fr 2
    have t3 := Y3.fr 3
    have t4 := Y3.fr 4
    have t5 := Y3.fr 5
    simp only [List.getElem?_toArray, List.getElem?_cons_zero, List.getElem?_cons_succ] at x0 x1 x2 x3 x4 x5 z0 z1 z2 z3 z4 z5
    have zz := Y3.lt
    have FB := Lib.hid (setB_box Y3 (.int .i64 b.me) (.slice no nn nc) (.slice ao an ac) (.slice so sn sc) (.slice eo en ec) (.slice oo on_ oc))
    have FL := Lib.hid (setB_below (b := w.heap.size + 1 + 1) B2.out (by omega) (.int .i64 b.me) (.slice no nn nc) (.slice ao an ac) (.slice so sn sc) (.slice eo en ec) (.slice oo on_ oc))
    clear Y1 Y3 nb
    go_wp2_with fail
    have v0 := FB.out.cell 0
    have v1 := FB.out.cell 1
    have v2 := FB.out.cell 2
    have v3 := FB.out.cell 3
    have v4 := FB.out.cell 4
    have v5 := FB.out.cell 5
    simp at v0 v1 v2 v3 v4 v5
    refine bodyPost_ret (v := .tuple #[.agg #[.int .i64 b.me, .slice no nn nc, .slice ao an ac, .slice so sn sc, .slice eo en ec, .slice oo on_ oc], .bool false]) (by simp [results, Tryz.results12, go_sem, v0, v1, v2, v3, v4, v5]) rfl ?_
    rw [LQ.out]
    exact ⟨⟨(no, nn, nc), (ao, an, ac), (so, sn, sc), (eo, en, ec), (oo, on_, oc), rfl, HH.out.on FL.out, fun h => h.on FL.out⟩, FL.out⟩
  | some a =>
    obtain ⟨⟨r1, r2, ⟨ro, rn, rc⟩, r4⟩, rfl, hr1, hr2, hr3⟩ := hq
    have nb := newB w1 (.cells #[.int .i64 r1, .int .i64 r2, .slice ro rn rc, .int .i64 r4] 42)
    have bx := box_new w1 #[.int .i64 r1, .int .i64 r2, .slice ro rn rc, .int .i64 r4] 42
    have b3 := bx.cell 3
    have B2 := Lib.hid (B1.out.trans (nb.mono B1.out.size))
    have Y1 := Z1.out.on nb
    have Y2 := Z2.out.on nb
    have Y3 := Z3.out.on nb
    have AP := Lib.hid (show a.par = r4 from hr2.symm)
    have x0 := Y1.cell 0
    have x1 := Y1.cell 1
    have x2 := Y1.cell 2
    have x3 := Y1.cell 3
    have x4 := Y1.cell 4
    have x5 := Y1.cell 5
    have z0 := Y3.cell 0
    have z1 := Y3.cell 1
    have z2 := Y3.cell 2
    have z3 := Y3.cell 3
    have z4 := Y3.cell 4
    have z5 := Y3.cell 5
    have t0 := Y3.fr 0
    have t1 := Y3.fr 1
    have t2 := Y3.fr 2
    have t3 := Y3.fr 3
    have t4 := Y3.fr 4
    have t5 := Y3.fr 5
    simp only [List.getElem?_toArray, List.getElem?_cons_zero, List.getElem?_cons_succ] at x0 x1 x2 x3 x4 x5 z0 z1 z2 z3 z4 z5
    simp only [List.getElem?_toArray, List.getElem?_cons_zero, List.getElem?_cons_succ] at b3
    have zz := Y3.lt
    by_cases hpf : r4 = f
    · have LQ := Lib.hid (show forgetF b (c, d) f = ({ b with adv := b.adv.filter fun e => decide (e.id ≠ (c, d)), ent := b.ent.filter fun e => decide (e.tree ≠ (c, d)) }, true) by unfold forgetF; rw [FA.out]; simp only; rw [if_pos (by rw [AP.out]; exact hpf)])
      have hne : (r4 != f) = false := by simp [hpf]
      have Z1 := Lib.hid Y1
      have Z2 := Lib.hid Y2
      have Z3 := Lib.hid Y3
      have L1 := Lib.hid Y1.lt
      have L3 := Lib.hid (show w.heap.size + 1 < (w1.alloc (.cells #[.int .i64 r1, .int .i64 r2, .slice ro rn rc, .int .i64 r4] 42)).heap.size from Y2.lt)
      clear Y1 Y2 Y3 nb bx z0 z1 z2 z3 z4 z5 t0 t1 t2 t3 t4 t5 zz hr1 hr2 hr3 hpf
      go_wp2_with fail
      clear b3 x0 x1 x2 x3 x4 x5 hne
      generalize w1.alloc (.cells #[.int .i64 r1, .int .i64 r2, .slice ro rn rc, .int .i64 r4] 42) = w1a at *
      refine (acopy_any b (no, nn, nc) (ao, an, ac) (so, sn, sc) (eo, en, ec) (oo, on_, oc) w w1a B2.out HH.out HF.out HP.out).mono ?_
      rintro e2 w2 ⟨⟨⟨p1, q1, s1⟩, ⟨p2, q2, s2⟩, ⟨p3, q3, s3⟩, ⟨p4, q4, s4⟩, ⟨p5, q5, s5⟩, rfl, cp⟩, hb2⟩
      have V1 := Z1.out.on hb2
      have V2 := Lib.hid (Z2.out.on hb2)
      have V3 := Lib.hid (Z3.out.on hb2)
      have x0 := V1.cell 0
      have x1 := V1.cell 1
      have x2 := V1.cell 2
      have x3 := V1.cell 3
      have x4 := V1.cell 4
      have x5 := V1.cell 5
      have t0 := V1.fr 0
      have t1 := V1.fr 1
      have t2 := V1.fr 2
      have t3 := V1.fr 3
      have t4 := V1.fr 4
      have t5 := V1.fr 5
      simp only [List.getElem?_toArray, List.getElem?_cons_zero, List.getElem?_cons_succ] at x0 x1 x2 x3 x4 x5
      have zz := V1.lt
      have FB := Lib.hid (setB_box V1 (.int .i64 b.me) (.slice p1 q1 s1) (.slice p2 q2 s2) (.slice p3 q3 s3) (.slice p4 q4 s4) (.slice p5 q5 s5))
      have FC := Lib.hid (cp.but (but_setB w2 w.heap.size (.int .i64 b.me) (.slice p1 q1 s1) (.slice p2 q2 s2) (.slice p3 q3 s3) (.slice p4 q4 s4) (.slice p5 q5 s5)) V1)
      have FL := Lib.hid (setB_below (b := w.heap.size) (B2.out.trans (hb2.mono B2.out.size)) (Nat.le_refl _) (.int .i64 b.me) (.slice p1 q1 s1) (.slice p2 q2 s2) (.slice p3 q3 s3) (.slice p4 q4 s4) (.slice p5 q5 s5))
      have F2 := Lib.hid ((but_setB w2 w.heap.size (.int .i64 b.me) (.slice p1 q1 s1) (.slice p2 q2 s2) (.slice p3 q3 s3) (.slice p4 q4 s4) (.slice p5 q5 s5)).box V2.out (by omega))
      have F3 := Lib.hid ((but_setB w2 w.heap.size (.int .i64 b.me) (.slice p1 q1 s1) (.slice p2 q2 s2) (.slice p3 q3 s3) (.slice p4 q4 s4) (.slice p5 q5 s5)).box V3.out (by omega))
      have SZ := Lib.hid (show w1a.heap.size ≤ (setB w2 w.heap.size (.int .i64 b.me) (.slice p1 q1 s1) (.slice p2 q2 s2) (.slice p3 q3 s3) (.slice p4 q4 s4) (.slice p5 q5 s5)).heap.size by have := hb2.size; simp; omega)
      have L2 := Lib.hid (show w.heap.size < w1a.heap.size from L1.out)
      clear V1 V2 V3 cp hb2 Z1 Z2 Z3 L1
      go_upto_region 5 with fail
      clear x0 x1 x2 x3 x4 x5 t0 t1 t2 t3 t4 t5 zz
      unfold setB at FB FC FL F2 F3 SZ
      generalize ((((((w2).setCell ⟨w.heap.size, 0, none⟩ (.int .i64 b.me)).setCell ⟨w.heap.size, 1, none⟩ (.slice p1 q1 s1)).setCell ⟨w.heap.size, 2, none⟩ (.slice p2 q2 s2)).setCell ⟨w.heap.size, 3, none⟩ (.slice p3 q3 s3)).setCell ⟨w.heap.size, 4, none⟩ (.slice p4 q4 s4)).setCell ⟨w.heap.size, 5, none⟩ (.slice p5 q5 s5) = w3 at *
      obtain ⟨la, hla1, hla2⟩ := FC.out.adv
      have DL := Lib.hid (delD_any w1a.heap.size (p2, q2, s2) la (w.heap.size + 1) c d w3 hla1 F2.out SZ.out)
      have TG := Lib.hid (tag_own hla1)
      have HL2 := Lib.hid hla2
      have x2 := FB.out.cell 2
      simp only [List.getElem?_toArray, List.getElem?_cons_zero, List.getElem?_cons_succ] at x2
      clear hla1 hla2
      go_wp2_with fail
      refine DL.out.mono ?_
      rintro e4 w4 ⟨⟨⟨t1, t2, t3⟩, rfl, hown⟩, hbel, hoff⟩
      have CP2 := Lib.hid (FC.out.offD (av' := (t1, t2, t3)) (al := b.adv.filter fun e => decide (e.id ≠ (c, d))) hoff ⟨_, hown, all2_fil _ _ (HL2.out.mono fun _ _ q => q.off hoff TG.out (by decide)) fun y z q => by
        show decide (keyD y ≠ (c, d)) = decide (z.id ≠ (c, d))
        rw [show keyD y = z.id from q.1]⟩)
      have G1 := hoff.box FB.out TG.out (by decide)
      have G2 := hoff.box F2.out TG.out (by decide)
      have G3 := hoff.box F3.out TG.out (by decide)
      have M1 := Lib.hid (show Box (w4.setCell ⟨w.heap.size, 2, none⟩ (.slice t1 t2 t3)) w.heap.size #[.int .i64 b.me, .slice p1 q1 s1, .slice t1 t2 t3, .slice p3 q3 s3, .slice p4 q4 s4, .slice p5 q5 s5] 29 by simpa using box_set (k := 2) G1 (.slice t1 t2 t3))
      have M2 := Lib.hid ((but_cell w4 w.heap.size 2 (.slice t1 t2 t3)).box G2 (by omega))
      have M3 := Lib.hid ((but_cell w4 w.heap.size 2 (.slice t1 t2 t3)).box G3 (by omega))
      have MC := Lib.hid (CP2.out.but (but_cell w4 w.heap.size 2 (.slice t1 t2 t3)) G1)
      have ML := Lib.hid (show Below w.heap.size w (w4.setCell ⟨w.heap.size, 2, none⟩ (.slice t1 t2 t3)) from (FL.out.trans (hbel.mono (Nat.le_of_lt L2.out))).setCell (p := ⟨w.heap.size, 2, none⟩) (Nat.le_refl _) _)
      have MZ := Lib.hid (show w1a.heap.size ≤ (w4.setCell ⟨w.heap.size, 2, none⟩ (.slice t1 t2 t3)).heap.size by have := SZ.out; have := hbel.size; simp; omega)
      clear x2
      have x2 := G1.cell 2
      have f2 := G1.fr 2
      have zz := G1.lt
      simp only [List.getElem?_toArray, List.getElem?_cons_zero, List.getElem?_cons_succ] at x2
      clear hown hbel hoff G1 G2 G3 CP2 FB FC F2 F3 FL SZ HL2 TG DL la
      go_upto_region 6 with fail
      clear x2 f2 zz
      generalize w4.setCell ⟨w.heap.size, 2, none⟩ (.slice t1 t2 t3) = w5 at *
      obtain ⟨le, hle1, hle2⟩ := MC.out.ent
      replace hle2 : All2 (EnM w w1a.heap.size w5) le b.ent := hle2
      have DL := Lib.hid (delN_any w1a.heap.size (p4, q4, s4) le (w.heap.size + 1) c d w5 hle1 M2.out MZ.out)
      have TG := Lib.hid (tag_own hle1)
      have HL2 := Lib.hid hle2
      have x4 := M1.out.cell 4
      simp only [List.getElem?_toArray, List.getElem?_cons_zero, List.getElem?_cons_succ] at x4
      clear hle1 hle2
      go_wp2_with fail
      refine DL.out.mono ?_
      rintro e5 w6 ⟨⟨⟨r1, r2, r3⟩, rfl, hown⟩, hbel, hoff⟩
      have CP4 := Lib.hid (MC.out.offN (ev' := (r1, r2, r3)) (el := b.ent.filter fun e => decide (e.tree ≠ (c, d))) hoff ⟨_, hown, all2_fil _ _ (HL2.out.mono fun _ _ q => q.off hoff TG.out (by decide)) fun y z q => by
        show decide (keyT y ≠ (c, d)) = decide (z.tree ≠ (c, d))
        rw [show keyT y = z.tree from q.1]⟩)
      have K1 := hoff.box M1.out TG.out (by decide)
      have K3 := hoff.box M3.out TG.out (by decide)
      have KL := ML.out.trans (hbel.mono (Nat.le_of_lt L2.out))
      have U1 := Lib.hid (show Box (w6.setCell ⟨w.heap.size, 4, none⟩ (.slice r1 r2 r3)) w.heap.size #[.int .i64 b.me, .slice p1 q1 s1, .slice t1 t2 t3, .slice p3 q3 s3, .slice r1 r2 r3, .slice p5 q5 s5] 29 by simpa using box_set (k := 4) K1 (.slice r1 r2 r3))
      have U3 := Lib.hid ((but_cell w6 w.heap.size 4 (.slice r1 r2 r3)).box K3 (by omega))
      have UC := Lib.hid (CP4.out.but (but_cell w6 w.heap.size 4 (.slice r1 r2 r3)) K1)
      have UL := Lib.hid (show Below w.heap.size w (w6.setCell ⟨w.heap.size, 4, none⟩ (.slice r1 r2 r3)) from KL.setCell (p := ⟨w.heap.size, 4, none⟩) (Nat.le_refl _) _)
      clear x4
      have x4 := K1.cell 4
      have f4 := K1.fr 4
      have zz := K1.lt
      simp only [List.getElem?_toArray, List.getElem?_cons_zero, List.getElem?_cons_succ] at x4
      clear hown hbel hoff K1 K3 KL CP4 MC M1 M2 M3 ML MZ HL2 TG DL le
      go_upto_region 7 with fail
      clear x4 f4 zz
      generalize w6.setCell ⟨w.heap.size, 4, none⟩ (.slice r1 r2 r3) = w7 at *
      have Q1 := U1.out
      have Q3 := U3.out
      have x0 := Q1.cell 0
      have x1 := Q1.cell 1
      have x2 := Q1.cell 2
      have x3 := Q1.cell 3
      have x4 := Q1.cell 4
      have x5 := Q1.cell 5
      have z0 := Q3.cell 0
      have z1 := Q3.cell 1
      have z2 := Q3.cell 2
      have z3 := Q3.cell 3
      have z4 := Q3.cell 4
      have z5 := Q3.cell 5
      have f0 := Q3.fr 0
      have f1 := Q3.fr 1
      have f2 := Q3.fr 2
      have f3 := Q3.fr 3
      have f4 := Q3.fr 4
      have f5 := Q3.fr 5
      simp only [List.getElem?_toArray, List.getElem?_cons_zero, List.getElem?_cons_succ] at x0 x1 x2 x3 x4 x5 z0 z1 z2 z3 z4 z5
      have zz := Q3.lt
      have FB := Lib.hid (setB_box Q3 (.int .i64 b.me) (.slice p1 q1 s1) (.slice t1 t2 t3) (.slice p3 q3 s3) (.slice r1 r2 r3) (.slice p5 q5 s5))
      have FC := Lib.hid (UC.out.but (but_setB w7 (w.heap.size + 1 + 1) (.int .i64 b.me) (.slice p1 q1 s1) (.slice t1 t2 t3) (.slice p3 q3 s3) (.slice r1 r2 r3) (.slice p5 q5 s5)) Q3)
      have FL := Lib.hid (setB_below (b := w.heap.size + 1 + 1) UL.out (by omega) (.int .i64 b.me) (.slice p1 q1 s1) (.slice t1 t2 t3) (.slice p3 q3 s3) (.slice r1 r2 r3) (.slice p5 q5 s5))
      clear Q1 Q3 U1 U3 UC UL
      go_wp2_with fail
      have v0 := FB.out.cell 0
      have v1 := FB.out.cell 1
      have v2 := FB.out.cell 2
      have v3 := FB.out.cell 3
      have v4 := FB.out.cell 4
      have v5 := FB.out.cell 5
      simp at v0 v1 v2 v3 v4 v5
      refine bodyPost_ret (v := .tuple #[.agg #[.int .i64 b.me, .slice p1 q1 s1, .slice t1 t2 t3, .slice p3 q3 s3, .slice r1 r2 r3, .slice p5 q5 s5], .bool true]) (by simp [results, Tryz.results12, go_sem, v0, v1, v2, v3, v4, v5]) rfl ?_
      rw [LQ.out]
      exact ⟨⟨(p1, q1, s1), (t1, t2, t3), (p3, q3, s3), (r1, r2, r3), (p5, q5, s5), rfl, FC.out.br FL.out, fun _ => ⟨_, FC.out.near⟩⟩, FL.out⟩
    · have LQ := Lib.hid (show forgetF b (c, d) f = (b, false) by unfold forgetF; rw [FA.out]; simp only; rw [if_neg (by rw [AP.out]; exact hpf)])
      have hne : (r4 != f) = true := by simp [hpf]
      have FB := Lib.hid (setB_box Y3 (.int .i64 b.me) (.slice no nn nc) (.slice ao an ac) (.slice so sn sc) (.slice eo en ec) (.slice oo on_ oc))
      have FL := Lib.hid (setB_below (b := w.heap.size + 1 + 1) B2.out (by omega) (.int .i64 b.me) (.slice no nn nc) (.slice ao an ac) (.slice so sn sc) (.slice eo en ec) (.slice oo on_ oc))
      clear Y1 Y2 Y3 nb bx hr1 hr2 hr3 hpf
      go_wp2_with fail
      have v0 := FB.out.cell 0
      have v1 := FB.out.cell 1
      have v2 := FB.out.cell 2
      have v3 := FB.out.cell 3
      have v4 := FB.out.cell 4
      have v5 := FB.out.cell 5
      simp at v0 v1 v2 v3 v4 v5
      refine bodyPost_ret (v := .tuple #[.agg #[.int .i64 b.me, .slice no nn nc, .slice ao an ac, .slice so sn sc, .slice eo en ec, .slice oo on_ oc], .bool false]) (by simp [results, Tryz.results12, go_sem, v0, v1, v2, v3, v4, v5]) rfl ?_
      rw [LQ.out]
      exact ⟨⟨(no, nn, nc), (ao, an, ac), (so, sn, sc), (eo, en, ec), (oo, on_, oc), rfl, HH.out.on FL.out, fun h => h.on FL.out⟩, FL.out⟩
end Go.Proofs.YtonoadjmglkhaaaGreat.Av
