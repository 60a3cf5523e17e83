/-
  Learn of package adverts: a broker with one advertisement more, if it was not seen. Conditions: at most 900 of each, its rows rise.
-/
import Derived.Test.YtncogjpmboglhaaQ027
import Derived.Test.YtncogjpmboglhaaQ013
namespace Go.Proofs.Ytncogjpmboglhaa.Av
open Go.RowKit Go.Sort Go.Proofs.Ytncogjpmboglhaa Go.Proofs.Ytncogjpmboglhaa.Rw Go.Proofs.Ytncogjpmboglhaa.Nm Go.Proofs.Ytncogjpmboglhaa.Pr Go.Proofs.Ytncogjpmboglhaa.Bk

abbrev RiseA (l : List Ad) : Prop := RiseK Ad.id l
abbrev RiseI (l : List XID) : Prop := RiseK (fun x : XID => x) l
/-- A broker's neighbours lie in a row of their own kind. -/
def NearOwn (W : World) (nv : Sl) (l : List Int) : Prop := ∃ B, OwnI W B (slv nv) l
theorem NearOwn.on {W W' : World} {nv : Sl} {l : List Int} (h : NearOwn W nv l) (hb : Below W.heap.size W W') : NearOwn W' nv l := by obtain ⟨B, h⟩ := h; exact ⟨B, Bk.own_on h hb⟩
/-- A broker, changed, and whether it was. -/
def LearnQ (W : World) (P : Prop) (r : Br × Bool) (e : Ending) (w' : World) : Prop := (∃ nv av sv ev ov : Sl, e = .returned (.tuple #[brv r.1.me nv av sv ev ov, .bool r.2]) ∧ BrIn w' r.1 nv av sv ev ov ∧ (P → NearOwn w' nv r.1.near)) ∧ Below W.heap.size W w'
theorem learnB_in {b : Br} {a : Ad} (h : a.id ∈ b.seen) : learnB b a = (b, false) := by unfold learnB; rw [if_pos h]
theorem learnB_out {b : Br} {a : Ad} (h : ¬ a.id ∈ b.seen) : learnB b a = ({ b with seen := insAt b.seen (placeI b.seen a.id) a.id, adv := insAt b.adv (placeI (b.adv.map Ad.id) a.id) a }, true) := by unfold learnB; rw [if_neg h]
set_option maxRecDepth 100000 in
set_option maxHeartbeats 32000000 in
theorem learn_any (b : Br) (a : Ad) (nv av sv ev ov : Sl) (x : XAd) (w : World) (h : BrIn w b nv av sv ev ov) (ha : AdIn w x a) (hf : Few b) (hp : FewP b) (hla : a.p.length ≤ 900) (hr1 : RiseI b.seen) (hr2 : RiseA b.adv) :
    Calls Try.prog 7 #[brv b.me nv av sv ev ov, valD x] w (LearnQ w (NearOwn w nv b.near) (learnB b a)) := by
  obtain ⟨no, nn, nc⟩ := nv
  obtain ⟨ao, an, ac⟩ := av
  obtain ⟨so, sn, sc⟩ := sv
  obtain ⟨eo, en, ec⟩ := ev
  obtain ⟨oo, on_, oc⟩ := ov
  obtain ⟨y1, y2, ⟨yo, yn, yc⟩, y4⟩ := x
  obtain ⟨h0, h1, h2⟩ := two_new w #[.int .i64 b.me, .slice no nn nc, .slice ao an ac, .slice so sn sc, .slice eo en ec, .slice oo on_ oc] #[.int .i64 y1, .int .i64 y2, .slice yo yn yc, .int .i64 y4] 34 39
  have h3 := newB ((w.alloc (.cells #[.int .i64 b.me, .slice no nn nc, .slice ao an ac, .slice so sn sc, .slice eo en ec, .slice oo on_ oc] 34)).alloc (.cells #[.int .i64 y1, .int .i64 y2, .slice yo yn yc, .int .i64 y4] 39)) (.cells #[.int .i64 0, .slice none 0 0, .slice none 0 0, .slice none 0 0, .slice none 0 0, .slice none 0 0] 34)
  have h4 := box_new ((w.alloc (.cells #[.int .i64 b.me, .slice no nn nc, .slice ao an ac, .slice so sn sc, .slice eo en ec, .slice oo on_ oc] 34)).alloc (.cells #[.int .i64 y1, .int .i64 y2, .slice yo yn yc, .int .i64 y4] 39)) #[.int .i64 0, .slice none 0 0, .slice none 0 0, .slice none 0 0, .slice none 0 0, .slice none 0 0] 34
  have hsz : ((w.alloc (.cells #[.int .i64 b.me, .slice no nn nc, .slice ao an ac, .slice so sn sc, .slice eo en ec, .slice oo on_ oc] 34)).alloc (.cells #[.int .i64 y1, .int .i64 y2, .slice yo yn yc, .int .i64 y4] 39)).heap.size = w.heap.size + 1 + 1 := by simp
  rw [hsz] at h4
  have BB := Lib.hid (h0.trans (h3.mono h0.size))
  have X1 := Lib.hid (h1.on h3)
  have X2 := Lib.hid (h2.on h3)
  have X3 := Lib.hid h4
  have HH := Lib.hid h
  have HA := Lib.hid ha
  have HF := Lib.hid hf
  have HP := Lib.hid hp
  have LA := Lib.hid hla
  have R1 := Lib.hid hr1
  have R2 := Lib.hid hr2
  have ei : a.id = (y1, y2) := ha.1.symm
  have SW := Lib.hid (aseen_any b.me (.slice no nn nc) (.slice ao an ac) (.slice eo en ec) (.slice oo on_ oc) (so, sn, sc) b.seen (y1, y2) _ (h.seen.on BB.out))
  obtain ⟨r, hr⟩ : ∃ r, decide ((y1, y2) ∈ b.seen) = r := ⟨_, rfl⟩
  rw [hr] at SW
  have HR := Lib.hid hr
  have EI := Lib.hid ei
  have x0 := X1.out.cell 0
  have x1 := X1.out.cell 1
  have x2 := X1.out.cell 2
  have x3 := X1.out.cell 3
  have x4 := X1.out.cell 4
  have x5 := X1.out.cell 5
  have d0 := X2.out.cell 0
  have d1 := X2.out.cell 1
  have d2 := X2.out.cell 2
  have d3 := X2.out.cell 3
  have z0 := X3.out.cell 0
  have z1 := X3.out.cell 1
  have z2 := X3.out.cell 2
  have z3 := X3.out.cell 3
  have z4 := X3.out.cell 4
  have z5 := X3.out.cell 5
  have t0 := X3.out.fr 0
  have t1 := X3.out.fr 1
  have t2 := X3.out.fr 2
  have t3 := X3.out.fr 3
  have t4 := X3.out.fr 4
  have t5 := X3.out.fr 5
  simp only [List.getElem?_toArray, List.getElem?_cons_zero, List.getElem?_cons_succ] at x0 x1 x2 x3 x4 x5 d0 d1 d2 d3 z0 z1 z2 z3 z4 z5
  have zz := X3.out.lt
  clear h0 h1 h2 h3 h4 hsz h ha hf hp hla hr1 hr2 hr ei
  go_enter Try.func7, Try.ntmps7
  go_wp2_with fail
  generalize ((w.alloc (.cells #[.int .i64 b.me, .slice no nn nc, .slice ao an ac, .slice so sn sc, .slice eo en ec, .slice oo on_ oc] 34)).alloc (.cells #[.int .i64 y1, .int .i64 y2, .slice yo yn yc, .int .i64 y4] 39)).alloc (.cells #[.int .i64 0, .slice none 0 0, .slice none 0 0, .slice none 0 0, .slice none 0 0, .slice none 0 0] 34) = W at *
  refine SW.out.mono ?_
  rintro e1 w1 ⟨rfl, hb⟩
  have B1 := Lib.hid (BB.out.trans (hb.mono BB.out.size))
  have Y1 := X1.out.on hb
  have Y2 := X2.out.on hb
  have Y3 := X3.out.on hb
  clear SW hb x0 x1 x2 x3 x4 x5 d0 d1 d2 d3 z0 z1 z2 z3 z4 z5 t0 t1 t2 t3 t4 t5 zz X1 X2 X3
  have x0 := Y1.cell 0
  have x1 := Y1.cell 1
  have x2 := Y1.cell 2
  have x3 := Y1.cell 3
  have x4 := Y1.cell 4
  have x5 := Y1.cell 5
  have z0 := Y3.cell 0
  have z1 := Y3.cell 1
  have z2 := Y3.cell 2
  have z3 := Y3.cell 3
  have z4 := Y3.cell 4
  have z5 := Y3.cell 5
  have t0 := Y3.fr 0
  have t1 := Y3.fr 1
  have t2 := Y3.fr 2
  have t3 := Y3.fr 3
  have t4 := Y3.fr 4
  have t5 := Y3.fr 5
  simp only [List.getElem?_toArray, List.getElem?_cons_zero, List.getElem?_cons_succ] at x0 x1 x2 x3 x4 x5 z0 z1 z2 z3 z4 z5
  have zz := Y3.lt
  cases r
  · have nin : ¬ a.id ∈ b.seen := by rw [EI.out]; exact of_decide_eq_false HR.out
    have LQ := Lib.hid (learnB_out nin)
    have Z1 := Lib.hid Y1
    have Z2 := Lib.hid Y2
    have Z3 := Lib.hid Y3
    have L1 := Lib.hid Y1.lt
    have L3 := Lib.hid (show w.heap.size + 1 < w1.heap.size from Y2.lt)
    clear z0 z1 z2 z3 z4 z5 t0 t1 t2 t3 t4 t5 zz nin
    go_wp2_with fail
    refine (acopy_any b (no, nn, nc) (ao, an, ac) (so, sn, sc) (eo, en, ec) (oo, on_, oc) w w1 B1.out HH.out HF.out HP.out).mono ?_
    rintro e2 w2 ⟨⟨⟨p1, q1, s1⟩, ⟨p2, q2, s2⟩, ⟨p3, q3, s3⟩, ⟨p4, q4, s4⟩, ⟨p5, q5, s5⟩, rfl, cp⟩, hb2⟩
    have V1 := Z1.out.on hb2
    have V2 := Lib.hid (Z2.out.on hb2)
    have V3 := Lib.hid (Z3.out.on hb2)
    clear x0 x1 x2 x3 x4 x5
    have x0 := V1.cell 0
    have x1 := V1.cell 1
    have x2 := V1.cell 2
    have x3 := V1.cell 3
    have x4 := V1.cell 4
    have x5 := V1.cell 5
    have t0 := V1.fr 0
    have t1 := V1.fr 1
    have t2 := V1.fr 2
    have t3 := V1.fr 3
    have t4 := V1.fr 4
    have t5 := V1.fr 5
    simp only [List.getElem?_toArray, List.getElem?_cons_zero, List.getElem?_cons_succ] at x0 x1 x2 x3 x4 x5
    have zz := V1.lt
    have FB := Lib.hid (setB_box V1 (.int .i64 b.me) (.slice p1 q1 s1) (.slice p2 q2 s2) (.slice p3 q3 s3) (.slice p4 q4 s4) (.slice p5 q5 s5))
    have FC := Lib.hid (cp.but (but_setB w2 w.heap.size (.int .i64 b.me) (.slice p1 q1 s1) (.slice p2 q2 s2) (.slice p3 q3 s3) (.slice p4 q4 s4) (.slice p5 q5 s5)) V1)
    have FL := Lib.hid (setB_below (b := w.heap.size) (B1.out.trans (hb2.mono B1.out.size)) (Nat.le_refl _) (.int .i64 b.me) (.slice p1 q1 s1) (.slice p2 q2 s2) (.slice p3 q3 s3) (.slice p4 q4 s4) (.slice p5 q5 s5))
    have F2 := Lib.hid ((but_setB w2 w.heap.size (.int .i64 b.me) (.slice p1 q1 s1) (.slice p2 q2 s2) (.slice p3 q3 s3) (.slice p4 q4 s4) (.slice p5 q5 s5)).box V2.out (by omega))
    have F3 := Lib.hid ((but_setB w2 w.heap.size (.int .i64 b.me) (.slice p1 q1 s1) (.slice p2 q2 s2) (.slice p3 q3 s3) (.slice p4 q4 s4) (.slice p5 q5 s5)).box V3.out (by omega))
    have SZ := Lib.hid (show w1.heap.size ≤ (setB w2 w.heap.size (.int .i64 b.me) (.slice p1 q1 s1) (.slice p2 q2 s2) (.slice p3 q3 s3) (.slice p4 q4 s4) (.slice p5 q5 s5)).heap.size by have := hb2.size; simp; omega)
    have L2 := Lib.hid (show w.heap.size < w1.heap.size from L1.out)
    clear V1 V2 V3 cp hb2 Z1 Z2 Z3 L1
    go_upto_region 4 with fail
    clear x0 x1 x2 x3 x4 x5 t0 t1 t2 t3 t4 t5 zz
    unfold setB at FB FC FL F2 F3 SZ
    generalize ((((((w2).setCell ⟨w.heap.size, 0, none⟩ (.int .i64 b.me)).setCell ⟨w.heap.size, 1, none⟩ (.slice p1 q1 s1)).setCell ⟨w.heap.size, 2, none⟩ (.slice p2 q2 s2)).setCell ⟨w.heap.size, 3, none⟩ (.slice p3 q3 s3)).setCell ⟨w.heap.size, 4, none⟩ (.slice p4 q4 s4)).setCell ⟨w.heap.size, 5, none⟩ (.slice p5 q5 s5) = w3 at *
    obtain ⟨la, hla1, hla2⟩ := FC.out.adv
    have HL1 := Lib.hid hla1
    have HL2 := Lib.hid hla2
    have KE := Lib.hid (keys_eq hla2)
    clear hla1 hla2
    refine lrn4 _ w3 w1.heap.size la w.heap.size (w.heap.size + 1) b.me (.slice p1 q1 s1) p2 q2 s2 (.slice p3 q3 s3) (.slice p4 q4 s4) (.slice p5 q5 s5) y1 y2 yo yn yc y4 a.p _ _ _ _ _ _ _ _ _ _ _ _ _ _ _ _ _ _ _ _ _ _ _ _ FB.out F2.out HL1.out ?_ ?_ SZ.out L2.out (HA.out.2.2.on FL.out) LA.out ?_
    · rw [riseK_map, KE.out, ← riseK_map]; exact R2.out
    · rw [HL2.out.len]; exact HF.out.adv
    intro w4 v13 v14 v15 v16 v17 v18 s1' s2' s3' t1 t2 t3 hbx hown hc hoff hbel
    have CP2 := Lib.hid (FC.out.offD (av' := (t1, t2, t3)) (al := insAt b.adv (placeI (b.adv.map Ad.id) a.id) a) hoff ⟨_, hown, by
      have hg := tag_own HL1.out
      have h2 := HL2.out.mono fun _ _ q => q.off hoff hg (by decide)
      have hk : placeK keyD la (y1, y2) = placeI (b.adv.map Ad.id) a.id := by rw [placeK_map, KE.out, EI.out]
      rw [← hk]
      exact all2_ins h2 _ ⟨HA.out.1, HA.out.2.1, Or.inr (own_fewer hc SZ.out)⟩⟩)
    have G2 := Lib.hid (show Box w4 (w.heap.size + 1) _ _ from (hbel.block _ L3.out).trans F2.out)
    have G3 := Lib.hid (show Box w4 (w.heap.size + 1 + 1) _ _ from hoff.box F3.out (tag_own HL1.out) (by decide))
    have G1 := Lib.hid (show Box (w4.setCell ⟨w.heap.size, 2, none⟩ (.slice t1 t2 t3)) w.heap.size #[.int .i64 b.me, .slice p1 q1 s1, .slice t1 t2 t3, .slice p3 q3 s3, .slice p4 q4 s4, .slice p5 q5 s5] 34 by simpa using box_set (k := 2) hbx (.slice t1 t2 t3))
    have CP3 := Lib.hid (CP2.out.but (but_cell w4 w.heap.size 2 (.slice t1 t2 t3)) hbx)
    have G2' := Lib.hid ((but_cell w4 w.heap.size 2 (.slice t1 t2 t3)).box G2.out (by omega))
    have G3' := Lib.hid ((but_cell w4 w.heap.size 2 (.slice t1 t2 t3)).box G3.out (by omega))
    have GL := Lib.hid (show Below w.heap.size w (w4.setCell ⟨w.heap.size, 2, none⟩ (.slice t1 t2 t3)) from (FL.out.trans (hbel.mono (Nat.le_of_lt L2.out))).setCell (p := ⟨w.heap.size, 2, none⟩) (Nat.le_refl _) _)
    have GZ := Lib.hid (show w1.heap.size ≤ (w4.setCell ⟨w.heap.size, 2, none⟩ (.slice t1 t2 t3)).heap.size by have := SZ.out; have := hbel.size; simp; omega)
    clear hbx hown hc hoff hbel CP2 G2 G3 FB FC F2 F3 FL SZ HL1 HL2 KE
    generalize w4.setCell ⟨w.heap.size, 2, none⟩ (.slice t1 t2 t3) = w5 at *
    have x3 := G1.out.cell 3
    have d1 := G2'.out.cell 1
    have d0 := G2'.out.cell 0
    simp only [List.getElem?_toArray, List.getElem?_cons_zero, List.getElem?_cons_succ] at x3 d0 d1
    go_wp2_with fail
    refine (putJ_any w1.heap.size (p3, q3, s3) b.seen (y1, y2) w5 CP3.out.seen R1.out HF.out.seen GZ.out).mono ?_
    rintro e3 w6 ⟨⟨⟨r1, r2, r3⟩, rfl, hown⟩, hbel, hoth⟩
    have hoff : Off (slv (p3, q3, s3)).ownBlock w5 w6 := ⟨hoth, hbel.size⟩
    have CP4 := Lib.hid (CP3.out.offJ (sv' := (r1, r2, r3)) (sl := insAt b.seen (placeI b.seen a.id) a.id) hoff (by
      have hk : placeK keyJ b.seen (keyJ (y1, y2)) = placeI b.seen a.id := by rw [placeK_map, EI.out]; simp
      rw [← hk, EI.out]
      exact hown))
    have hg := tag_own CP3.out.seen
    have K1 := hoff.box G1.out hg (by decide)
    have K3 := hoff.box G3'.out hg (by decide)
    have KL := GL.out.trans (hbel.mono (Nat.le_of_lt L2.out))
    have M1 := Lib.hid (show Box (w6.setCell ⟨w.heap.size, 3, none⟩ (.slice r1 r2 r3)) w.heap.size #[.int .i64 b.me, .slice p1 q1 s1, .slice t1 t2 t3, .slice r1 r2 r3, .slice p4 q4 s4, .slice p5 q5 s5] 34 by simpa using box_set (k := 3) K1 (.slice r1 r2 r3))
    have M3 := Lib.hid ((but_cell w6 w.heap.size 3 (.slice r1 r2 r3)).box K3 (by omega))
    have MC := Lib.hid (CP4.out.but (but_cell w6 w.heap.size 3 (.slice r1 r2 r3)) K1)
    have ML := Lib.hid (show Below w.heap.size w (w6.setCell ⟨w.heap.size, 3, none⟩ (.slice r1 r2 r3)) from KL.setCell (p := ⟨w.heap.size, 3, none⟩) (Nat.le_refl _) _)
    clear x3 d0 d1
    have x3 := K1.cell 3
    have t3 := K1.fr 3
    have zz := K1.lt
    simp only [List.getElem?_toArray, List.getElem?_cons_zero, List.getElem?_cons_succ] at x3
    clear hown hbel hoth hoff hg K1 K3 KL CP4 CP3 G1 G2' G3' GL GZ
    go_upto_region 6 with fail
    clear x3 t3 zz
    generalize w6.setCell ⟨w.heap.size, 3, none⟩ (.slice r1 r2 r3) = w7 at *
    have U1 := M1.out
    have U3 := M3.out
    have x0 := U1.cell 0
    have x1 := U1.cell 1
    have x2 := U1.cell 2
    have x3 := U1.cell 3
    have x4 := U1.cell 4
    have x5 := U1.cell 5
    have z0 := U3.cell 0
    have z1 := U3.cell 1
    have z2 := U3.cell 2
    have z3 := U3.cell 3
    have z4 := U3.cell 4
    have z5 := U3.cell 5
    have f0 := U3.fr 0
    have f1 := U3.fr 1
    have f2 := U3.fr 2
    have f3 := U3.fr 3
    have f4 := U3.fr 4
    have f5 := U3.fr 5
    simp only [List.getElem?_toArray, List.getElem?_cons_zero, List.getElem?_cons_succ] at x0 x1 x2 x3 x4 x5 z0 z1 z2 z3 z4 z5
    have zz := U3.lt
    have FB := Lib.hid (setB_box U3 (.int .i64 b.me) (.slice p1 q1 s1) (.slice t1 t2 t3) (.slice r1 r2 r3) (.slice p4 q4 s4) (.slice p5 q5 s5))
    have FC := Lib.hid (MC.out.but (but_setB w7 (w.heap.size + 1 + 1) (.int .i64 b.me) (.slice p1 q1 s1) (.slice t1 t2 t3) (.slice r1 r2 r3) (.slice p4 q4 s4) (.slice p5 q5 s5)) U3)
    have FL := Lib.hid (setB_below (b := w.heap.size + 1 + 1) ML.out (by omega) (.int .i64 b.me) (.slice p1 q1 s1) (.slice t1 t2 t3) (.slice r1 r2 r3) (.slice p4 q4 s4) (.slice p5 q5 s5))
    clear U1 U3 M1 M3 MC ML
    go_wp2_with fail
    have v0 := FB.out.cell 0
    have v1 := FB.out.cell 1
    have v2 := FB.out.cell 2
    have v3 := FB.out.cell 3
    have v4 := FB.out.cell 4
    have v5 := FB.out.cell 5
    simp at v0 v1 v2 v3 v4 v5
    refine bodyPost_ret (v := .tuple #[.agg #[.int .i64 b.me, .slice p1 q1 s1, .slice t1 t2 t3, .slice r1 r2 r3, .slice p4 q4 s4, .slice p5 q5 s5], .bool true]) (by simp [results, Try.results7, go_sem, v0, v1, v2, v3, v4, v5]) rfl ?_
    rw [LQ.out]
    exact ⟨⟨(p1, q1, s1), (t1, t2, t3), (r1, r2, r3), (p4, q4, s4), (p5, q5, s5), rfl, FC.out.br FL.out, fun _ => ⟨_, FC.out.near⟩⟩, FL.out⟩
  · have hin : a.id ∈ b.seen := by rw [EI.out]; exact of_decide_eq_true HR.out
    have LQ := Lib.hid (learnB_in hin)
    have FB := Lib.hid (setB_box Y3 (.int .i64 b.me) (.slice no nn nc) (.slice ao an ac) (.slice so sn sc) (.slice eo en ec) (.slice oo on_ oc))
    have FL := Lib.hid (setB_below (b := w.heap.size + 1 + 1) B1.out (by omega) (.int .i64 b.me) (.slice no nn nc) (.slice ao an ac) (.slice so sn sc) (.slice eo en ec) (.slice oo on_ oc))
    clear hin Y1 Y2 Y3
    go_wp2_with fail
    have v0 := FB.out.cell 0
    have v1 := FB.out.cell 1
    have v2 := FB.out.cell 2
    have v3 := FB.out.cell 3
    have v4 := FB.out.cell 4
    have v5 := FB.out.cell 5
    simp at v0 v1 v2 v3 v4 v5
    refine bodyPost_ret (v := .tuple #[.agg #[.int .i64 b.me, .slice no nn nc, .slice ao an ac, .slice so sn sc, .slice eo en ec, .slice oo on_ oc], .bool false]) (by simp [results, Try.results7, go_sem, v0, v1, v2, v3, v4, v5]) rfl ?_
    rw [LQ.out]
    exact ⟨⟨(no, nn, nc), (ao, an, ac), (so, sn, sc), (eo, en, ec), (oo, on_, oc), rfl, HH.out.on FL.out, fun h => h.on FL.out⟩, FL.out⟩
end Go.Proofs.Ytncogjpmboglhaa.Av
