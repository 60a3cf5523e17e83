/-
  Forget of package adverts: a broker without one advertisement, and its tree's entries. Conditions: at most 900 of each, its rows rise.
  slices.BinarySearch of numbers; comes of package adverts. Conditions: they don't fall; at most 900 of them.
-/
import Derived.Test.YtonoadjmglkhaaaQ027
import Derived.Test.YtonoadjmglkhaaaQ028
import Derived.Test.YtonoadjmglkhaaaQ024
import Derived.Test.YtonoadjmglkhaaaQ020
import Derived.Test.YtonoadjmglkhaaaQ010
import Derived.Deep.LoopGhost
namespace Go.Proofs.Ytonoadjmglkhaaa.Av
open Go.RowKit Go.Sort Go.Proofs.Ytonoadjmglkhaaa Go.Proofs.Ytonoadjmglkhaaa.Rw Go.Proofs.Ytonoadjmglkhaaa.Nm Go.Proofs.Ytonoadjmglkhaaa.Pr Go.Proofs.Ytonoadjmglkhaaa.Bk

def forgetF (b : Br) (x : XID) (f : Int) : Br × Bool := match findA b.adv x with
  | none => (b, false)
  | some a => if a.par = f then ({ b with adv := b.adv.filter fun e => decide (e.id ≠ x), ent := b.ent.filter fun e => decide (e.tree ≠ x) }, true) else (b, false)
theorem filter_cut {al : List Ad} (hr : RiseA al) {k : Nat} {a : Ad} {x : XID} (hk : al[k]? = some a) (hx : a.id = x) : al.filter (fun e => decide (e.id ≠ x)) = cutAt al k := by
  subst hx
  unfold cutAt
  have h1 : al = al.take k ++ (a :: al.drop (k + 1)) := by
    have hlt := (List.getElem?_eq_some_iff.1 hk).1
    have he := (List.getElem?_eq_some_iff.1 hk).2
    rw [← he, List.getElem_cons_drop, List.take_append_drop]
  conv => lhs; rw [h1]
  rw [List.filter_append, List.filter_cons_of_neg (by simp)]
  have hp := List.pairwise_iff_getElem.1 hr
  have e1 : (al.take k).filter (fun e => decide (e.id ≠ a.id)) = al.take k := by
    rw [List.filter_eq_self]
    intro y hy
    obtain ⟨j, hj⟩ := List.mem_iff_getElem?.1 hy
    have hjl := (List.getElem?_eq_some_iff.1 hj).1
    rw [List.length_take] at hjl
    rw [List.getElem?_take_of_lt (by omega)] at hj
    have := riseK_lt hr (show j < k by omega) hj hk
    refine decide_eq_true fun e => ?_
    rw [e, lessI_irr] at this
    cases this
  have e2 : (al.drop (k + 1)).filter (fun e => decide (e.id ≠ a.id)) = al.drop (k + 1) := by
    rw [List.filter_eq_self]
    intro y hy
    obtain ⟨j, hj⟩ := List.mem_iff_getElem?.1 hy
    rw [List.getElem?_drop] at hj
    have := riseK_lt hr (show k < k + 1 + j by omega) hk hj
    refine decide_eq_true fun e => ?_
    rw [e, lessI_irr] at this
    cases this
  rw [e1, e2]
theorem forgetF_eq {b : Br} (hr : RiseA b.adv) (x : XID) (f : Int) : forgetF b x f = forgetB b x f := by
  unfold forgetF forgetB
  by_cases h : findI (b.adv.map Ad.id) x = -1
  · have hn : findA b.adv x = none := findA_none fun j a hj => findI_neg (key := Ad.id) h j a hj
    rw [hn]
    cases b.adv[(findI (b.adv.map Ad.id) x).toNat]? with
    | none => rfl
    | some a => simp only; rw [if_pos h]
  · obtain ⟨k, hk⟩ : ∃ k : Nat, findI (b.adv.map Ad.id) x = k := ⟨(findI (b.adv.map Ad.id) x).toNat, by have := findI_bd (b.adv.map Ad.id) x; omega⟩
    obtain ⟨g1, g2⟩ := findI_get hk
    rw [List.getElem?_map] at g1
    cases ha : b.adv[k]? with
    | none => rw [ha] at g1; cases g1
    | some a =>
      rw [ha] at g1
      have hx : a.id = x := Option.some.inj g1
      have hf : findA b.adv x = some a := findA_at ha hx fun j z hj hz => g2 j z.id hj (by rw [List.getElem?_map, hz]; rfl)
      rw [hf, hk, Int.toNat_natCast, ha]
      simp only
      rw [if_neg (show ¬ ((k : Int) = -1) by omega)]
      split
      · rw [filter_cut hr ha hx]
      · rfl
theorem all2_fil {α β : Type} {R : α → β → Prop} (p : α → Bool) (q : β → Bool) : ∀ {l : List α} {m : List β}, All2 R l m → (∀ a b, R a b → p a = q b) → All2 R (l.filter p) (m.filter q)
  | _, _, .nil, _ => .nil
  | _, _, .cons (a := a) (b := b) x t, h => by
    have e := h a b x
    rw [List.filter_cons, List.filter_cons, e]
    cases q b
    · exact all2_fil p q t h
    · exact .cons x (all2_fil p q t h)
set_option maxRecDepth 100000 in
set_option maxHeartbeats 32000000 in
theorem forget_any (b : Br) (x : XID) (f : Int) (nv av sv ev ov : Sl) (w : World) (h : BrIn w b nv av sv ev ov) (hf : Few b) (hp : FewP b) :
    Calls Try.prog 7 #[brv b.me nv av sv ev ov, idv x, .int .i64 f] w (LearnQ w (NearOwn w nv b.near) (forgetF b x f)) := by
  obtain ⟨no, nn, nc⟩ := nv
  obtain ⟨ao, an, ac⟩ := av
  obtain ⟨so, sn, sc⟩ := sv
  obtain ⟨eo, en, ec⟩ := ev
  obtain ⟨oo, on_, oc⟩ := ov
  obtain ⟨c, d⟩ := x
  obtain ⟨h0, h1, h2⟩ := two_new w #[.int .i64 b.me, .slice no nn nc, .slice ao an ac, .slice so sn sc, .slice eo en ec, .slice oo on_ oc] #[.int .i64 c, .int .i64 d] 33 23
  have h3 := newB ((w.alloc (.cells #[.int .i64 b.me, .slice no nn nc, .slice ao an ac, .slice so sn sc, .slice eo en ec, .slice oo on_ oc] 33)).alloc (.cells #[.int .i64 c, .int .i64 d] 23)) (.cells #[.int .i64 0, .slice none 0 0, .slice none 0 0, .slice none 0 0, .slice none 0 0, .slice none 0 0] 33)
  have h4 := box_new ((w.alloc (.cells #[.int .i64 b.me, .slice no nn nc, .slice ao an ac, .slice so sn sc, .slice eo en ec, .slice oo on_ oc] 33)).alloc (.cells #[.int .i64 c, .int .i64 d] 23)) #[.int .i64 0, .slice none 0 0, .slice none 0 0, .slice none 0 0, .slice none 0 0, .slice none 0 0] 33
  have hsz : ((w.alloc (.cells #[.int .i64 b.me, .slice no nn nc, .slice ao an ac, .slice so sn sc, .slice eo en ec, .slice oo on_ oc] 33)).alloc (.cells #[.int .i64 c, .int .i64 d] 23)).heap.size = w.heap.size + 1 + 1 := by simp
  rw [hsz] at h4
  have BB := Lib.hid (h0.trans (h3.mono h0.size))
  have X1 := Lib.hid (h1.on h3)
  have X2 := Lib.hid (h2.on h3)
  have X3 := Lib.hid h4
  have HH := Lib.hid h
  have HF := Lib.hid hf
  have HP := Lib.hid hp
  obtain ⟨la, ha1, ha2⟩ := h.adv
  have SW := Lib.hid (find_any b.me (.slice no nn nc) (.slice so sn sc) (.slice eo en ec) (.slice oo on_ oc) (ao, an, ac) la b.adv (c, d) _ (ha1.on BB.out) (ha2.mono fun _ _ q => q.on BB.out) hp.adv)
  obtain ⟨fa, hfa⟩ : ∃ fa, findA b.adv (c, d) = fa := ⟨_, rfl⟩
  rw [hfa] at SW
  have FA := Lib.hid hfa
  have x0 := X1.out.cell 0
  have x1 := X1.out.cell 1
  have x2 := X1.out.cell 2
  have x3 := X1.out.cell 3
  have x4 := X1.out.cell 4
  have x5 := X1.out.cell 5
  have d0 := X2.out.cell 0
  have d1 := X2.out.cell 1
  simp only [List.getElem?_toArray, List.getElem?_cons_zero, List.getElem?_cons_succ] at x0 x1 x2 x3 x4 x5 d0 d1
  clear h0 h1 h2 h3 h4 hsz h hf hp hfa ha1 ha2 la
  go_enter Try.func7, Try.ntmps7
  go_wp2_with fail
  generalize ((w.alloc (.cells #[.int .i64 b.me, .slice no nn nc, .slice ao an ac, .slice so sn sc, .slice eo en ec, .slice oo on_ oc] 33)).alloc (.cells #[.int .i64 c, .int .i64 d] 23)).alloc (.cells #[.int .i64 0, .slice none 0 0, .slice none 0 0, .slice none 0 0, .slice none 0 0, .slice none 0 0] 33) = W at *
  refine SW.out.mono ?_
  rintro e1 w1 ⟨hq, hb⟩
  have B1 := Lib.hid (BB.out.trans (hb.mono BB.out.size))
  have Z1 := Lib.hid (X1.out.on hb)
  have Z2 := Lib.hid (X2.out.on hb)
  have Z3 := Lib.hid (X3.out.on hb)
  clear SW hb x0 x1 x2 x3 x4 x5 d0 d1 X1 X2 X3
  cases fa with
  | none =>
    have LQ := Lib.hid (show forgetF b (c, d) f = (b, false) by unfold forgetF; rw [FA.out])
    subst hq
    have nb := newB w1 (.cells #[.int .i64 0, .int .i64 0, .slice none 0 0, .int .i64 0] 26)
    have B2 := Lib.hid (B1.out.trans (nb.mono B1.out.size))
    have Y1 := Z1.out.on nb
    have Y3 := Z3.out.on nb
    have x0 := Y1.cell 0
    have x1 := Y1.cell 1
    have x2 := Y1.cell 2
    have x3 := Y1.cell 3
    have x4 := Y1.cell 4
    have x5 := Y1.cell 5
    have z0 := Y3.cell 0
    have z1 := Y3.cell 1
    have z2 := Y3.cell 2
    have z3 := Y3.cell 3
    have z4 := Y3.cell 4
    have z5 := Y3.cell 5
    have t0 := Y3.fr 0
    have t1 := Y3.fr 1
    have t2 := Y3.fr 2
    have t3 := Y3.fr 3
    have t4 := Y3.fr 4
    have t5 := Y3.fr 5
    simp only [List.getElem?_toArray, List.getElem?_cons_zero, List.getElem?_cons_succ] at x0 x1 x2 x3 x4 x5 z0 z1 z2 z3 z4 z5
    have zz := Y3.lt
    have FB := Lib.hid (setB_box Y3 (.int .i64 b.me) (.slice no nn nc) (.slice ao an ac) (.slice so sn sc) (.slice eo en ec) (.slice oo on_ oc))
    have FL := Lib.hid (setB_below (b := w.heap.size + 1 + 1) B2.out (by omega) (.int .i64 b.me) (.slice no nn nc) (.slice ao an ac) (.slice so sn sc) (.slice eo en ec) (.slice oo on_ oc))
    clear Y1 Y3 nb
    go_wp2_with fail
    have v0 := FB.out.cell 0
    have v1 := FB.out.cell 1
    have v2 := FB.out.cell 2
    have v3 := FB.out.cell 3
    have v4 := FB.out.cell 4
    have v5 := FB.out.cell 5
    simp at v0 v1 v2 v3 v4 v5
    refine bodyPost_ret (v := .tuple #[.agg #[.int .i64 b.me, .slice no nn nc, .slice ao an ac, .slice so sn sc, .slice eo en ec, .slice oo on_ oc], .bool false]) (by simp [results, Try.results7, go_sem, v0, v1, v2, v3, v4, v5]) rfl ?_
    rw [LQ.out]
    exact ⟨⟨(no, nn, nc), (ao, an, ac), (so, sn, sc), (eo, en, ec), (oo, on_, oc), rfl, HH.out.on FL.out, fun h => h.on FL.out⟩, FL.out⟩
  | some a =>
    obtain ⟨⟨r1, r2, ⟨ro, rn, rc⟩, r4⟩, rfl, hr1, hr2, hr3⟩ := hq
    have nb := newB w1 (.cells #[.int .i64 r1, .int .i64 r2, .slice ro rn rc, .int .i64 r4] 26)
    have bx := box_new w1 #[.int .i64 r1, .int .i64 r2, .slice ro rn rc, .int .i64 r4] 26
    have b3 := bx.cell 3
    have B2 := Lib.hid (B1.out.trans (nb.mono B1.out.size))
    have Y1 := Z1.out.on nb
    have Y2 := Z2.out.on nb
    have Y3 := Z3.out.on nb
    have AP := Lib.hid (show a.par = r4 from hr2.symm)
    have x0 := Y1.cell 0
    have x1 := Y1.cell 1
    have x2 := Y1.cell 2
    have x3 := Y1.cell 3
    have x4 := Y1.cell 4
    have x5 := Y1.cell 5
    have z0 := Y3.cell 0
    have z1 := Y3.cell 1
    have z2 := Y3.cell 2
    have z3 := Y3.cell 3
    have z4 := Y3.cell 4
    have z5 := Y3.cell 5
    have t0 := Y3.fr 0
    have t1 := Y3.fr 1
    have t2 := Y3.fr 2
    have t3 := Y3.fr 3
    have t4 := Y3.fr 4
    have t5 := Y3.fr 5
    simp only [List.getElem?_toArray, List.getElem?_cons_zero, List.getElem?_cons_succ] at x0 x1 x2 x3 x4 x5 z0 z1 z2 z3 z4 z5
    simp only [List.getElem?_toArray, List.getElem?_cons_zero, List.getElem?_cons_succ] at b3
    have zz := Y3.lt
    by_cases hpf : r4 = f
    · have LQ := Lib.hid (show forgetF b (c, d) f = ({ b with adv := b.adv.filter fun e => decide (e.id ≠ (c, d)), ent := b.ent.filter fun e => decide (e.tree ≠ (c, d)) }, true) by unfold forgetF; rw [FA.out]; simp only; rw [if_pos (by rw [AP.out]; exact hpf)])
      have hne : (r4 != f) = false := by simp [hpf]
      have Z1 := Lib.hid Y1
      have Z2 := Lib.hid Y2
      have Z3 := Lib.hid Y3
      have L1 := Lib.hid Y1.lt
      have L3 := Lib.hid (show w.heap.size + 1 < (w1.alloc (.cells #[.int .i64 r1, .int .i64 r2, .slice ro rn rc, .int .i64 r4] 26)).heap.size from Y2.lt)
      clear Y1 Y2 Y3 nb bx z0 z1 z2 z3 z4 z5 t0 t1 t2 t3 t4 t5 zz hr1 hr2 hr3 hpf
      go_wp2_with fail
      clear b3 x0 x1 x2 x3 x4 x5 hne
      generalize w1.alloc (.cells #[.int .i64 r1, .int .i64 r2, .slice ro rn rc, .int .i64 r4] 26) = w1a at *
      refine (acopy_any b (no, nn, nc) (ao, an, ac) (so, sn, sc) (eo, en, ec) (oo, on_, oc) w w1a B2.out HH.out HF.out HP.out).mono ?_
      rintro e2 w2 ⟨⟨⟨p1, q1, s1⟩, ⟨p2, q2, s2⟩, ⟨p3, q3, s3⟩, ⟨p4, q4, s4⟩, ⟨p5, q5, s5⟩, rfl, cp⟩, hb2⟩
      have V1 := Z1.out.on hb2
      have V2 := Lib.hid (Z2.out.on hb2)
      have V3 := Lib.hid (Z3.out.on hb2)
      have x0 := V1.cell 0
      have x1 := V1.cell 1
      have x2 := V1.cell 2
      have x3 := V1.cell 3
      have x4 := V1.cell 4
      have x5 := V1.cell 5
      have t0 := V1.fr 0
      have t1 := V1.fr 1
      have t2 := V1.fr 2
      have t3 := V1.fr 3
      have t4 := V1.fr 4
      have t5 := V1.fr 5
      simp only [List.getElem?_toArray, List.getElem?_cons_zero, List.getElem?_cons_succ] at x0 x1 x2 x3 x4 x5
      have zz := V1.lt
      have FB := Lib.hid (setB_box V1 (.int .i64 b.me) (.slice p1 q1 s1) (.slice p2 q2 s2) (.slice p3 q3 s3) (.slice p4 q4 s4) (.slice p5 q5 s5))
      have FC := Lib.hid (cp.but (but_setB w2 w.heap.size (.int .i64 b.me) (.slice p1 q1 s1) (.slice p2 q2 s2) (.slice p3 q3 s3) (.slice p4 q4 s4) (.slice p5 q5 s5)) V1)
      have FL := Lib.hid (setB_below (b := w.heap.size) (B2.out.trans (hb2.mono B2.out.size)) (Nat.le_refl _) (.int .i64 b.me) (.slice p1 q1 s1) (.slice p2 q2 s2) (.slice p3 q3 s3) (.slice p4 q4 s4) (.slice p5 q5 s5))
      have F2 := Lib.hid ((but_setB w2 w.heap.size (.int .i64 b.me) (.slice p1 q1 s1) (.slice p2 q2 s2) (.slice p3 q3 s3) (.slice p4 q4 s4) (.slice p5 q5 s5)).box V2.out (by omega))
      have F3 := Lib.hid ((but_setB w2 w.heap.size (.int .i64 b.me) (.slice p1 q1 s1) (.slice p2 q2 s2) (.slice p3 q3 s3) (.slice p4 q4 s4) (.slice p5 q5 s5)).box V3.out (by omega))
      have SZ := Lib.hid (show w1a.heap.size ≤ (setB w2 w.heap.size (.int .i64 b.me) (.slice p1 q1 s1) (.slice p2 q2 s2) (.slice p3 q3 s3) (.slice p4 q4 s4) (.slice p5 q5 s5)).heap.size by have := hb2.size; simp; omega)
      have L2 := Lib.hid (show w.heap.size < w1a.heap.size from L1.out)
      clear V1 V2 V3 cp hb2 Z1 Z2 Z3 L1
      go_upto_region 5 with fail
      clear x0 x1 x2 x3 x4 x5 t0 t1 t2 t3 t4 t5 zz
      unfold setB at FB FC FL F2 F3 SZ
      generalize ((((((w2).setCell ⟨w.heap.size, 0, none⟩ (.int .i64 b.me)).setCell ⟨w.heap.size, 1, none⟩ (.slice p1 q1 s1)).setCell ⟨w.heap.size, 2, none⟩ (.slice p2 q2 s2)).setCell ⟨w.heap.size, 3, none⟩ (.slice p3 q3 s3)).setCell ⟨w.heap.size, 4, none⟩ (.slice p4 q4 s4)).setCell ⟨w.heap.size, 5, none⟩ (.slice p5 q5 s5) = w3 at *
      obtain ⟨la, hla1, hla2⟩ := FC.out.adv
      have DL := Lib.hid (delD_any w1a.heap.size (p2, q2, s2) la (w.heap.size + 1) c d w3 hla1 F2.out SZ.out)
      have TG := Lib.hid (tag_own hla1)
      have HL2 := Lib.hid hla2
      have x2 := FB.out.cell 2
      simp only [List.getElem?_toArray, List.getElem?_cons_zero, List.getElem?_cons_succ] at x2
      clear hla1 hla2
      go_wp2_with fail
      refine DL.out.mono ?_
      rintro e4 w4 ⟨⟨⟨t1, t2, t3⟩, rfl, hown⟩, hbel, hoff⟩
      have CP2 := Lib.hid (FC.out.offD (av' := (t1, t2, t3)) (al := b.adv.filter fun e => decide (e.id ≠ (c, d))) hoff ⟨_, hown, all2_fil _ _ (HL2.out.mono fun _ _ q => q.off hoff TG.out (by decide)) fun y z q => by
        show decide (keyD y ≠ (c, d)) = decide (z.id ≠ (c, d))
        rw [show keyD y = z.id from q.1]⟩)
      have G1 := hoff.box FB.out TG.out (by decide)
      have G2 := hoff.box F2.out TG.out (by decide)
      have G3 := hoff.box F3.out TG.out (by decide)
      have M1 := Lib.hid (show Box (w4.setCell ⟨w.heap.size, 2, none⟩ (.slice t1 t2 t3)) w.heap.size #[.int .i64 b.me, .slice p1 q1 s1, .slice t1 t2 t3, .slice p3 q3 s3, .slice p4 q4 s4, .slice p5 q5 s5] 33 by simpa using box_set (k := 2) G1 (.slice t1 t2 t3))
      have M2 := Lib.hid ((but_cell w4 w.heap.size 2 (.slice t1 t2 t3)).box G2 (by omega))
      have M3 := Lib.hid ((but_cell w4 w.heap.size 2 (.slice t1 t2 t3)).box G3 (by omega))
      have MC := Lib.hid (CP2.out.but (but_cell w4 w.heap.size 2 (.slice t1 t2 t3)) G1)
      have ML := Lib.hid (show Below w.heap.size w (w4.setCell ⟨w.heap.size, 2, none⟩ (.slice t1 t2 t3)) from (FL.out.trans (hbel.mono (Nat.le_of_lt L2.out))).setCell (p := ⟨w.heap.size, 2, none⟩) (Nat.le_refl _) _)
      have MZ := Lib.hid (show w1a.heap.size ≤ (w4.setCell ⟨w.heap.size, 2, none⟩ (.slice t1 t2 t3)).heap.size by have := SZ.out; have := hbel.size; simp; omega)
      clear x2
      have x2 := G1.cell 2
      have f2 := G1.fr 2
      have zz := G1.lt
      simp only [List.getElem?_toArray, List.getElem?_cons_zero, List.getElem?_cons_succ] at x2
      clear hown hbel hoff G1 G2 G3 CP2 FB FC F2 F3 FL SZ HL2 TG DL la
      go_upto_region 6 with fail
      clear x2 f2 zz
      generalize w4.setCell ⟨w.heap.size, 2, none⟩ (.slice t1 t2 t3) = w5 at *
      obtain ⟨le, hle1, hle2⟩ := MC.out.ent
      replace hle2 : All2 (EnM w w1a.heap.size w5) le b.ent := hle2
      have DL := Lib.hid (delN_any w1a.heap.size (p4, q4, s4) le (w.heap.size + 1) c d w5 hle1 M2.out MZ.out)
      have TG := Lib.hid (tag_own hle1)
      have HL2 := Lib.hid hle2
      have x4 := M1.out.cell 4
      simp only [List.getElem?_toArray, List.getElem?_cons_zero, List.getElem?_cons_succ] at x4
      clear hle1 hle2
      go_wp2_with fail
      refine DL.out.mono ?_
      rintro e5 w6 ⟨⟨⟨r1, r2, r3⟩, rfl, hown⟩, hbel, hoff⟩
      have CP4 := Lib.hid (MC.out.offN (ev' := (r1, r2, r3)) (el := b.ent.filter fun e => decide (e.tree ≠ (c, d))) hoff ⟨_, hown, all2_fil _ _ (HL2.out.mono fun _ _ q => q.off hoff TG.out (by decide)) fun y z q => by
        show decide (keyT y ≠ (c, d)) = decide (z.tree ≠ (c, d))
        rw [show keyT y = z.tree from q.1]⟩)
      have K1 := hoff.box M1.out TG.out (by decide)
      have K3 := hoff.box M3.out TG.out (by decide)
      have KL := ML.out.trans (hbel.mono (Nat.le_of_lt L2.out))
      have U1 := Lib.hid (show Box (w6.setCell ⟨w.heap.size, 4, none⟩ (.slice r1 r2 r3)) w.heap.size #[.int .i64 b.me, .slice p1 q1 s1, .slice t1 t2 t3, .slice p3 q3 s3, .slice r1 r2 r3, .slice p5 q5 s5] 33 by simpa using box_set (k := 4) K1 (.slice r1 r2 r3))
      have U3 := Lib.hid ((but_cell w6 w.heap.size 4 (.slice r1 r2 r3)).box K3 (by omega))
      have UC := Lib.hid (CP4.out.but (but_cell w6 w.heap.size 4 (.slice r1 r2 r3)) K1)
      have UL := Lib.hid (show Below w.heap.size w (w6.setCell ⟨w.heap.size, 4, none⟩ (.slice r1 r2 r3)) from KL.setCell (p := ⟨w.heap.size, 4, none⟩) (Nat.le_refl _) _)
      clear x4
      have x4 := K1.cell 4
      have f4 := K1.fr 4
      have zz := K1.lt
      simp only [List.getElem?_toArray, List.getElem?_cons_zero, List.getElem?_cons_succ] at x4
      clear hown hbel hoff K1 K3 KL CP4 MC M1 M2 M3 ML MZ HL2 TG DL le
      go_upto_region 7 with fail
      clear x4 f4 zz
      generalize w6.setCell ⟨w.heap.size, 4, none⟩ (.slice r1 r2 r3) = w7 at *
      have Q1 := U1.out
      have Q3 := U3.out
      have x0 := Q1.cell 0
      have x1 := Q1.cell 1
      have x2 := Q1.cell 2
      have x3 := Q1.cell 3
      have x4 := Q1.cell 4
      have x5 := Q1.cell 5
      have z0 := Q3.cell 0
      have z1 := Q3.cell 1
      have z2 := Q3.cell 2
      have z3 := Q3.cell 3
      have z4 := Q3.cell 4
      have z5 := Q3.cell 5
      have f0 := Q3.fr 0
      have f1 := Q3.fr 1
      have f2 := Q3.fr 2
      have f3 := Q3.fr 3
      have f4 := Q3.fr 4
      have f5 := Q3.fr 5
      simp only [List.getElem?_toArray, List.getElem?_cons_zero, List.getElem?_cons_succ] at x0 x1 x2 x3 x4 x5 z0 z1 z2 z3 z4 z5
      have zz := Q3.lt
      have FB := Lib.hid (setB_box Q3 (.int .i64 b.me) (.slice p1 q1 s1) (.slice t1 t2 t3) (.slice p3 q3 s3) (.slice r1 r2 r3) (.slice p5 q5 s5))
      have FC := Lib.hid (UC.out.but (but_setB w7 (w.heap.size + 1 + 1) (.int .i64 b.me) (.slice p1 q1 s1) (.slice t1 t2 t3) (.slice p3 q3 s3) (.slice r1 r2 r3) (.slice p5 q5 s5)) Q3)
      have FL := Lib.hid (setB_below (b := w.heap.size + 1 + 1) UL.out (by omega) (.int .i64 b.me) (.slice p1 q1 s1) (.slice t1 t2 t3) (.slice p3 q3 s3) (.slice r1 r2 r3) (.slice p5 q5 s5))
      clear Q1 Q3 U1 U3 UC UL
      go_wp2_with fail
      have v0 := FB.out.cell 0
      have v1 := FB.out.cell 1
      have v2 := FB.out.cell 2
      have v3 := FB.out.cell 3
      have v4 := FB.out.cell 4
      have v5 := FB.out.cell 5
      simp at v0 v1 v2 v3 v4 v5
      refine bodyPost_ret (v := .tuple #[.agg #[.int .i64 b.me, .slice p1 q1 s1, .slice t1 t2 t3, .slice p3 q3 s3, .slice r1 r2 r3, .slice p5 q5 s5], .bool true]) (by simp [results, Try.results7, go_sem, v0, v1, v2, v3, v4, v5]) rfl ?_
      rw [LQ.out]
      exact ⟨⟨(p1, q1, s1), (t1, t2, t3), (p3, q3, s3), (r1, r2, r3), (p5, q5, s5), rfl, FC.out.br FL.out, fun _ => ⟨_, FC.out.near⟩⟩, FL.out⟩
    · have LQ := Lib.hid (show forgetF b (c, d) f = (b, false) by unfold forgetF; rw [FA.out]; simp only; rw [if_neg (by rw [AP.out]; exact hpf)])
      have hne : (r4 != f) = true := by simp [hpf]
      have FB := Lib.hid (setB_box Y3 (.int .i64 b.me) (.slice no nn nc) (.slice ao an ac) (.slice so sn sc) (.slice eo en ec) (.slice oo on_ oc))
      have FL := Lib.hid (setB_below (b := w.heap.size + 1 + 1) B2.out (by omega) (.int .i64 b.me) (.slice no nn nc) (.slice ao an ac) (.slice so sn sc) (.slice eo en ec) (.slice oo on_ oc))
      clear Y1 Y2 Y3 nb bx hr1 hr2 hr3 hpf
      go_wp2_with fail
      have v0 := FB.out.cell 0
      have v1 := FB.out.cell 1
      have v2 := FB.out.cell 2
      have v3 := FB.out.cell 3
      have v4 := FB.out.cell 4
      have v5 := FB.out.cell 5
      simp at v0 v1 v2 v3 v4 v5
      refine bodyPost_ret (v := .tuple #[.agg #[.int .i64 b.me, .slice no nn nc, .slice ao an ac, .slice so sn sc, .slice eo en ec, .slice oo on_ oc], .bool false]) (by simp [results, Try.results7, go_sem, v0, v1, v2, v3, v4, v5]) rfl ?_
      rw [LQ.out]
      exact ⟨⟨(no, nn, nc), (ao, an, ac), (so, sn, sc), (eo, en, ec), (oo, on_, oc), rfl, HH.out.on FL.out, fun h => h.on FL.out⟩, FL.out⟩
end Go.Proofs.Ytonoadjmglkhaaa.Av

namespace Go.Proofs.Ytonoadjmglkhaaa.Av
open Go.RowKit Go.Sort Go.Proofs.Ytonoadjmglkhaaa Go.Proofs.Ytonoadjmglkhaaa.Rw Go.Proofs.Ytonoadjmglkhaaa.Nm Go.Proofs.Ytonoadjmglkhaaa.Pr Go.Proofs.Ytonoadjmglkhaaa.Bk

set_option maxRecDepth 100000 in
theorem isNaN2_any (a : Int) (w : World) : Calls Try.prog 92 #[.int .i64 a] w fun e w' => e = .returned (.bool false) ∧ w' = w := by
  go_enter Try.func92, Try.ntmps92
  go_wp2
  go_ret
  exact ⟨by simp, rfl⟩
set_option maxRecDepth 100000 in
theorem less2_any (a b : Int) (r : Bool) (hr : decide (a < b) = r) (w : World) : Calls Try.prog 78 #[.int .i64 a, .int .i64 b] w fun e w' => e = .returned (.bool r) ∧ w' = w := by
  go_enter Try.func78, Try.ntmps78
  go_wp2_with (go_at_call 64; refine (isNaN_any _ _).mono ?_; rintro e w' ⟨rfl, rfl⟩)
  go_ret
  exact ⟨by first | rfl | (subst hr; rfl), rfl⟩
set_option maxRecDepth 100000 in
set_option maxHeartbeats 8000000 in
theorem bsI_any (v : Value) (l : List Int) (t : Int) (w : World) (hv : RowI w v l) (hs : l.Pairwise (· ≤ ·)) (hl : l.length ≤ 900) :
    Calls Try.prog 83 #[v, .int .i64 t] w fun e w' => (∃ k : Nat, e = .returned (.tuple #[.int .i64 k, .bool (decide (t ∈ l))])) ∧ w' = w := by
  have HL := Lib.hid hv
  have HS := Lib.hid (List.pairwise_iff_getElem.1 hs)
  obtain ⟨ao, ac, rfl⟩ := hv.len
  obtain ⟨n, hn⟩ : ∃ n, n = l.length := ⟨_, rfl⟩
  rw [← hn] at HL hl ⊢
  have HN := Lib.hid hn
  obtain ⟨th, ht⟩ : ∃ k, k = decide (t ∈ l) := ⟨_, rfl⟩
  rw [← ht]
  have HT := Lib.hid ht
  clear hv hs hn ht
  go_enter Try.func83, Try.ntmps83
  go_wp2
  go_loopg [7, 8] n (fun kx s7 s8 wr => ∃ lo hi : Nat, s7 = .int .i64 lo ∧ s8 = .int .i64 hi ∧ lo ≤ hi ∧ hi ≤ n ∧ hi - lo ≤ kx ∧ RowKit.Hid (wr = w) ∧
    (∀ (j : Nat) (y : Int), j < lo → l[j]? = some y → y < t) ∧ (∀ (j : Nat) (y : Int), hi ≤ j → l[j]? = some y → t ≤ y))
  case atStart => exact ⟨0, n, rfl, rfl, Nat.zero_le _, Nat.le_refl _, by omega, by first | exact Lib.hid rfl | exact Lib.hid trivial, fun j y h => by omega, fun j y h1 h2 => by have := (List.getElem?_eq_some_iff.1 h2).1; have := HN.out; omega⟩
  case round =>
    obtain ⟨lo, hi, rfl, rfl, hlh, hin, hg, hw, ha, hz⟩ := hrel
    obtain rfl := hw.out
    clear hw
    have AL := Lib.hid ha
    have ZL := Lib.hid hz
    clear ha hz
    by_cases hlt : lo < hi
    · obtain ⟨y, hy⟩ : ∃ y, l[(lo + hi) / 2]? = some y := ⟨_, List.getElem?_eq_getElem (by have := HN.out; omega)⟩
      obtain ⟨p, ix, _, px⟩ := elI HL.out rfl HN.out.symm hy
      have p0 := px wr (Below.refl _ _)
      have Y := Lib.hid hy
      have e23 : ((lo : Int) + (hi : Int)) / 2 = (((lo + hi) / 2 : Nat) : Int) := by omega
      generalize hm : (lo + hi) / 2 = m at *
      have hcmp : ∀ (i j : Nat) (a b : Int), i ≤ j → l[i]? = some a → l[j]? = some b → a ≤ b := by
        intro i j a b hij h1 h2
        obtain ⟨q1, rfl⟩ := List.getElem?_eq_some_iff.1 h1
        obtain ⟨q2, rfl⟩ := List.getElem?_eq_some_iff.1 h2
        rcases Nat.lt_or_ge i j with h | h
        · exact HS.out i j q1 q2 h
        · obtain rfl : i = j := by omega
          exact Int.le_refl _
      have CM := Lib.hid hcmp
      clear px hy hcmp
      by_cases hneg : y < t
      · have C := less2_any y t true (by simpa using hneg)
        go_wp2_with fail
        refine (C _).mono ?_
        rintro e w' ⟨rfl, rfl⟩
        clear C ix p0
        go_wp2
        go_roundg (hi - (m + 1))
        case measure => omega
        case rel => exact ⟨m + 1, hi, by go_num, rfl, by omega, hin, Nat.le_refl _, by first | exact Lib.hid rfl | exact Lib.hid trivial, fun j z h1 h2 => by
          have := CM.out j m z y (by omega) h2 Y.out
          omega, ZL.out⟩
      · have C := less2_any y t false (by simp; omega)
        go_wp2_with fail
        refine (C _).mono ?_
        rintro e w' ⟨rfl, rfl⟩
        clear C ix p0
        go_wp2
        go_roundg (m - lo)
        case measure => omega
        case rel => exact ⟨lo, m, rfl, rfl, by omega, by omega, Nat.le_refl _, by first | exact Lib.hid rfl | exact Lib.hid trivial, AL.out, fun j z h1 h2 => by
          have := CM.out m j y z h1 Y.out h2
          omega⟩
    · obtain rfl : hi = lo := by omega
      have memk : ∀ x, l[hi]? = some x → (t ∈ l ↔ x = t) := by
        intro x hx
        constructor
        · intro hm
          obtain ⟨j, hj, rfl⟩ := List.mem_iff_getElem.1 hm
          have h1 := ZL.out hi x (Nat.le_refl _) hx
          obtain ⟨q1, rfl⟩ := List.getElem?_eq_some_iff.1 hx
          rcases Nat.lt_trichotomy j hi with h | h | h
          · have := AL.out j _ h (List.getElem?_eq_getElem hj); omega
          · subst h; rfl
          · have := HS.out hi j q1 hj h; omega
        · rintro rfl
          exact List.mem_of_getElem? hx
      by_cases hn : hi < n
      · obtain ⟨x, hx⟩ : ∃ x, l[hi]? = some x := ⟨_, List.getElem?_eq_getElem (by have := HN.out; omega)⟩
        obtain ⟨p, ix, _, px⟩ := elI HL.out rfl HN.out.symm hx
        have p0 := px wr (Below.refl _ _)
        have g4 : decide ((hi : Int) < (n : Int)) = true := by simp; omega
        have MK := memk x hx
        clear memk px
        by_cases he : x = t
        · have TH := Lib.hid (show th = true by rw [HT.out, decide_eq_true (MK.2 he)])
          have g5 : (x == t) = true := by simp [he]
          clear hx MK he hlt
          go_wp2_with (go_at_call 92; refine (isNaN2_any _ _).mono ?_; rintro e w' ⟨rfl, rfl⟩)
          go_ret2
          exact ⟨⟨hi, by rw [TH.out]; rfl⟩, rfl⟩
        · have TH := Lib.hid (show th = false by rw [HT.out, decide_eq_false (fun h => he (MK.1 h))])
          have g5 : (x == t) = false := by simp [he]
          clear hx MK he hlt
          go_wp2_with (go_at_call 92; refine (isNaN2_any _ _).mono ?_; rintro e w' ⟨rfl, rfl⟩)
          go_ret2
          exact ⟨⟨hi, by rw [TH.out]; rfl⟩, rfl⟩
      · have TH := Lib.hid (show th = false by
          rw [HT.out]
          refine decide_eq_false fun hm => ?_
          obtain ⟨j, hj, hjt⟩ := List.mem_iff_getElem.1 hm
          have := AL.out j _ (by have := HN.out; omega) (List.getElem?_eq_getElem hj)
          omega)
        have g4 : decide ((hi : Int) < (n : Int)) = false := by simp; omega
        clear hlt memk
        go_wp2_with fail
        go_ret2
        exact ⟨⟨hi, by rw [TH.out]; rfl⟩, rfl⟩
/-- May something come from there? -/
def comesB (near : List Int) (f : Int) : Bool := decide (f ∈ near) || f == -1
set_option maxRecDepth 100000 in
theorem comes_any (me : Int) (nv : Sl) (z2 z3 z4 z5 : Value) (l : List Int) (f : Int) (w : World) (hn : RowI w (slv nv) l) (hs : l.Pairwise (· ≤ ·)) (hl : l.length ≤ 900) :
    Calls Try.prog 65 #[.agg #[.int .i64 me, slv nv, z2, z3, z4, z5], .int .i64 f] w fun e w' => e = .returned (.bool (comesB l f)) ∧ Below w.heap.size w w' := by
  obtain ⟨o1, n1, c1⟩ := nv
  have n0 := newB w (.cells #[.int .i64 me, .slice o1 n1 c1, z2, z3, z4, z5] 33)
  have X := box_new w #[.int .i64 me, .slice o1 n1 c1, z2, z3, z4, z5] 33
  have C := Lib.hid (bsI_any (.slice o1 n1 c1) l f _ (hn.on n0) hs hl)
  have x1 := X.cell 1
  simp only [List.getElem?_toArray, List.getElem?_cons_zero, List.getElem?_cons_succ] at x1
  have R := Lib.hid (show comesB l f = (decide (f ∈ l) || f == -1) from rfl)
  generalize comesB l f = res at *
  generalize decide (f ∈ l) = r at *
  have B0 := Lib.hid n0
  obtain ⟨q, hq⟩ : ∃ q, (f == -1) = q := ⟨_, rfl⟩
  rw [hq] at R
  clear n0 X hn hs hl
  go_enter Try.func65, Try.ntmps65
  go_wp2_with fail
  refine C.out.mono ?_
  rintro e w1 ⟨⟨k, rfl⟩, rfl⟩
  cases r
  · go_wp2_with fail
    go_ret
    exact ⟨by rw [R.out]; rfl, B0.out⟩
  · go_wp2_with fail
    go_ret
    exact ⟨by rw [R.out]; rfl, B0.out⟩
end Go.Proofs.Ytonoadjmglkhaaa.Av
