/-
  Take of package subs: a broker without an entry, and those that are put up in its stead. Conditions: at most 900 of each; the entries rise; predicates in normal form.
-/
import Derived.Test.YtncogjpmboglhaaQ044
import Derived.Test.YtncogjpmboglhaaQ045
namespace Go.Proofs.Ytncogjpmboglhaa.Sb
open Go.RowKit Go.Sort Go.Proofs.Ytncogjpmboglhaa Go.Proofs.Ytncogjpmboglhaa.Rw Go.Proofs.Ytncogjpmboglhaa.Nm Go.Proofs.Ytncogjpmboglhaa.Pr Go.Proofs.Ytncogjpmboglhaa.Bk Go.Proofs.Ytncogjpmboglhaa.Av Go.Proofs.Ytncogjpmboglhaa.Rl

theorem cut_sub {α : Type} (l : List α) (k : Nat) : (cutAt l k).Sublist l := by
  unfold cutAt
  conv => rhs; rw [← List.take_append_drop k l]
  exact (List.Sublist.refl _).append (List.drop_sublist_drop_left l (Nat.le_succ k))
theorem mem_cut {α : Type} {l : List α} {k : Nat} {x : α} (h : x ∈ cutAt l k) : x ∈ l := (cut_sub l k).subset h
/-- What Take answers, by its own way of looking things up. -/
def takeF (b : Br) (t s : XID) (f : Int) : Br × List En × Bool := match findE b.ent t s with
  | none => (b, [], false)
  | some e => if e.from_ ≠ f then (b, [], false) else if e.up = false then ({ b with ent := cutAt b.ent (placeP (b.ent.map keyE) (t, s)) }, [], false) else
    ({ b with ent := (cutAt b.ent (placeP (b.ent.map keyE) (t, s))).take (fromT (cutAt b.ent (placeP (b.ent.map keyE) (t, s))) t) ++ (raiseK (brE (cutAt b.ent (placeP (b.ent.map keyE) (t, s))) t) (brE (cutAt b.ent (placeP (b.ent.map keyE) (t, s))) t).length).1 ++ (cutAt b.ent (placeP (b.ent.map keyE) (t, s))).drop (fromT (cutAt b.ent (placeP (b.ent.map keyE) (t, s))) t + (brE (cutAt b.ent (placeP (b.ent.map keyE) (t, s))) t).length) }, (raiseK (brE (cutAt b.ent (placeP (b.ent.map keyE) (t, s))) t) (brE (cutAt b.ent (placeP (b.ent.map keyE) (t, s))) t).length).2, true)
theorem take_br {m : List En} (hr : RiseE m) (t : XID) : takeK t m m.length = (m.take (fromT m t) ++ (raiseK (brE m t) (brE m t).length).1 ++ m.drop (fromT m t + (brE m t).length), (raiseK (brE m t) (brE m t).length).2) := by
  obtain ⟨c, h1, h0, h2, h3, h4⟩ := br_split hr t
  have h := take_raise h2 h3 h4
  rw [← h1] at h
  rw [h]
  have e : m.drop (fromT m t + (brE m t).length) = c := by
    conv => lhs; arg 2; rw [h1]
    rw [List.drop_left' (by rw [List.length_append, h0])]
  rw [e]
theorem takeF_eq {b : Br} (hr : RiseE b.ent) {t s : XID} {f : Int} : takeF b t s f = takeB b t s f := by
  unfold takeF takeB
  have ft := find_there hr t s
  rw [ft]
  cases ht : thereE b.ent t s with
  | false =>
    rw [find_not ht]
    simp only [Bool.false_eq_true, if_false]
    cases b.ent[(-1 : Int).toNat]? <;> rfl
  | true =>
    obtain ⟨e, h1, h2, h3⟩ := find_some ht
    rw [h3]
    simp only [if_true]
    rw [Int.toNat_natCast, h1]
    simp only
    rw [if_neg (show ¬ ((placeP (b.ent.map keyE) (t, s) : Int) = -1) by omega)]
    have hr2 : RiseE (cutAt b.ent (placeP (b.ent.map keyE) (t, s))) := hr.sublist (cut_sub _ _)
    generalize cutAt b.ent (placeP (b.ent.map keyE) (t, s)) = m at *
    rw [take_br hr2]
/-- A broker, what is put up, and whether what was taken was up. -/
def TakeQ (w : World) (P : Prop) (r : Br × List En × Bool) (e : Ending) (w' : World) : Prop := (∃ (nv av sv ev ov uv : Sl) (lu : List XEn), e = .returned (.tuple #[brv r.1.me nv av sv ev ov, slv uv, .bool r.2.2]) ∧ BrIn w' r.1 nv av sv ev ov ∧ RowN w' (slv uv) lu ∧ All2 (EnIn w') lu r.2.1 ∧ (P → NearOwn w' nv r.1.near)) ∧ Below w.heap.size w w'
set_option maxRecDepth 100000 in
set_option maxHeartbeats 64000000 in
theorem stake_any (b : Br) (nv av sv ev ov : Sl) (t s : XID) (f : Int) (w : World) (h : BrIn w b nv av sv ev ov) (hf : Few b) (hp : FewP b) (hr : RiseE b.ent) (hok : ∀ e ∈ b.ent, PredOk e.p) :
    Calls Try.prog 10 #[brv b.me nv av sv ev ov, idv t, idv s, .int .i64 f] w (TakeQ w (NearOwn w nv b.near) (takeB b t s f)) := by
  obtain ⟨no, nn, nc⟩ := nv
  obtain ⟨ao, an, ac⟩ := av
  obtain ⟨so, sn, sc⟩ := sv
  obtain ⟨eo, en, ec⟩ := ev
  obtain ⟨oo, on_, oc⟩ := ov
  obtain ⟨c, d⟩ := t
  obtain ⟨g0, h0⟩ := s
  obtain ⟨n0, X, Y, Z, V⟩ := four_new w #[.int .i64 b.me, .slice no nn nc, .slice ao an ac, .slice so sn sc, .slice eo en ec, .slice oo on_ oc] #[.int .i64 c, .int .i64 d] #[.int .i64 g0, .int .i64 h0] #[.int .i64 0, .slice none 0 0, .slice none 0 0, .slice none 0 0, .slice none 0 0, .slice none 0 0] 34 23 23 34
  have BB := Lib.hid n0
  have X1 := Lib.hid X
  have X2 := Lib.hid Y
  have X4 := Lib.hid V
  have HH := Lib.hid h
  have HF := Lib.hid hf
  have HP := Lib.hid hp
  have HR := Lib.hid hr
  have OK := Lib.hid hok
  have x4 := X.cell 4
  simp only [List.getElem?_toArray, List.getElem?_cons_zero, List.getElem?_cons_succ] at x4
  have y0 := Y.cell 0
  have y1 := Y.cell 1
  simp only [List.getElem?_toArray, List.getElem?_cons_zero, List.getElem?_cons_succ] at y0 y1
  have z0 := Z.cell 0
  have z1 := Z.cell 1
  simp only [List.getElem?_toArray, List.getElem?_cons_zero, List.getElem?_cons_succ] at z0 z1
  obtain ⟨les, hs1, hs2⟩ := h.ent
  have LS1 := Lib.hid (hs1.on n0)
  have LS2 := Lib.hid (hs2.mono fun _ _ q => q.on n0)
  have PL := Lib.hid (place_any (eo, en, ec) les b.ent (c, d) (g0, h0) _ LS1.out LS2.out hr (by rw [hs2.len]; have := hf.ent; omega))
  have hn := sl_len hs1
  have HN := Lib.hid hn
  obtain ⟨k, hk⟩ : ∃ k, placeP (b.ent.map keyE) ((c, d), (g0, h0)) = k := ⟨_, rfl⟩
  obtain ⟨th, hth⟩ : ∃ k, thereE b.ent (c, d) (g0, h0) = k := ⟨_, rfl⟩
  rw [hk, hth] at PL
  have HK := Lib.hid hk
  clear n0 X Y Z V h hf hp hr hok hs1 hs2 hn hk
  go_enter Try.func10, Try.ntmps10
  go_wp2_with fail
  generalize (((w.alloc (.cells #[.int .i64 b.me, .slice no nn nc, .slice ao an ac, .slice so sn sc, .slice eo en ec, .slice oo on_ oc] 34)).alloc (.cells #[.int .i64 c, .int .i64 d] 23)).alloc (.cells #[.int .i64 g0, .int .i64 h0] 23)).alloc (.cells #[.int .i64 0, .slice none 0 0, .slice none 0 0, .slice none 0 0, .slice none 0 0, .slice none 0 0] 34) = W at *
  refine PL.out.mono ?_
  rintro e1 w1 ⟨rfl, hb⟩
  have BW := Lib.hid (BB.out.trans (hb.mono BB.out.size))
  have T1 := Lib.hid (X1.out.on hb)
  have T2 := Lib.hid (X2.out.on hb)
  have T4 := Lib.hid (X4.out.on hb)
  have HB := Lib.hid hb
  clear x4 y0 y1 z0 z1 PL hb X1 X2 X4
  cases th
  · have LQ := Lib.hid (show takeB b (c, d) (g0, h0) f = (b, [], false) from by
      rw [← takeF_eq HR.out]
      unfold takeF
      rw [find_not hth])
    have Q1 := T1.out
    have Q3 := T4.out
    have x0 := Q1.cell 0
    have x1 := Q1.cell 1
    have x2 := Q1.cell 2
    have x3 := Q1.cell 3
    have x4 := Q1.cell 4
    have x5 := Q1.cell 5
    simp only [List.getElem?_toArray, List.getElem?_cons_zero, List.getElem?_cons_succ] at x0 x1 x2 x3 x4 x5
    have z0 := Q3.cell 0
    have z1 := Q3.cell 1
    have z2 := Q3.cell 2
    have z3 := Q3.cell 3
    have z4 := Q3.cell 4
    have z5 := Q3.cell 5
    have zf0 := Q3.fr 0
    have zf1 := Q3.fr 1
    have zf2 := Q3.fr 2
    have zf3 := Q3.fr 3
    have zf4 := Q3.fr 4
    have zf5 := Q3.fr 5
    have zlt := Q3.lt
    simp only [List.getElem?_toArray, List.getElem?_cons_zero, List.getElem?_cons_succ] at z0 z1 z2 z3 z4 z5
    have FB := Lib.hid (setB_box Q3 (.int .i64 b.me) (.slice no nn nc) (.slice ao an ac) (.slice so sn sc) (.slice eo en ec) (.slice oo on_ oc))
    have FL := Lib.hid (setB_below (b := w.heap.size + 1 + 1 + 1) BW.out (by omega) (.int .i64 b.me) (.slice no nn nc) (.slice ao an ac) (.slice so sn sc) (.slice eo en ec) (.slice oo on_ oc))
    clear Q1 Q3
    go_wp2_with fail
    clear z0 z1 z2 z3 z4 z5
    have v0 := FB.out.cell 0
    have v1 := FB.out.cell 1
    have v2 := FB.out.cell 2
    have v3 := FB.out.cell 3
    have v4 := FB.out.cell 4
    have v5 := FB.out.cell 5
    simp at v0 v1 v2 v3 v4 v5
    refine bodyPost_ret (v := .tuple #[.agg #[.int .i64 b.me, .slice no nn nc, .slice ao an ac, .slice so sn sc, .slice eo en ec, .slice oo on_ oc], .slice none 0 0, .bool false]) (by simp [results, Try.results10, go_sem, v0, v1, v2, v3, v4, v5]) rfl ?_
    rw [LQ.out]
    exact ⟨⟨(no, nn, nc), (ao, an, ac), (so, sn, sc), (eo, en, ec), (oo, on_, oc), (none, 0, 0), [], rfl, HH.out.on FL.out, row_nil _, .nil, fun h => h.on FL.out⟩, FL.out⟩
  · obtain ⟨e, he, hke, hfe⟩ := find_some hth
    rw [HK.out] at he
    have hkm := (List.getElem?_eq_some_iff.1 he).1
    have hkn : k < en := by rw [← HN.out, LS2.out.len]; exact hkm
    obtain ⟨y, hy, hx⟩ := LS2.out.at k e he
    obtain ⟨p, ix, px⟩ := elN LS1.out rfl HN.out hy
    obtain ⟨i0, i1, i2, i3, i4, i5, i6⟩ := px w1 HB.out
    obtain ⟨y1, y2, y3, y4, ⟨yo, yn, yc⟩, y6, y7⟩ := y
    simp only at i0 i1 i2 i3 i4 i5 i6
    have FE := Lib.hid hfe
    have EF := Lib.hid (show e.from_ = y6 from hx.2.2.1.symm)
    have EU := Lib.hid (show e.up = y7 from hx.2.2.2.1.symm)
    have x4 := T1.out.cell 4
    simp only [List.getElem?_toArray, List.getElem?_cons_zero, List.getElem?_cons_succ] at x4
    clear px hy hx he hke hfe hth i0 i1 i2 i3 i4
    by_cases hyf : y6 = f
    · have hne : (y6 != f) = false := by simp [hyf]
      have YF := Lib.hid hyf
      have T1_ := T1.out
      clear hyf x4
      have x0 := T1_.cell 0
      have x1 := T1_.cell 1
      have x2 := T1_.cell 2
      have x3 := T1_.cell 3
      have x4 := T1_.cell 4
      have x5 := T1_.cell 5
      simp only [List.getElem?_toArray, List.getElem?_cons_zero, List.getElem?_cons_succ] at x0 x1 x2 x3 x4 x5
      clear T1_
      go_wp2_with fail
      refine (acopy_any b (no, nn, nc) (ao, an, ac) (so, sn, sc) (eo, en, ec) (oo, on_, oc) w w1 BW.out HH.out HF.out HP.out).mono ?_
      rintro e2 w2 ⟨⟨⟨p1, q1, s1⟩, ⟨p2, q2, s2⟩, ⟨p3, q3, s3⟩, ⟨p4, q4, s4⟩, ⟨p5, q5, s5⟩, rfl, cp⟩, hb2⟩
      clear x0 x1 x2 x3 x4 x5
      clear ix i5 i6 hne
      have V4 := T4.out.on hb2
      have z0 := V4.cell 0
      have z1 := V4.cell 1
      have z2 := V4.cell 2
      have z3 := V4.cell 3
      have z4 := V4.cell 4
      have z5 := V4.cell 5
      have zf0 := V4.fr 0
      have zf1 := V4.fr 1
      have zf2 := V4.fr 2
      have zf3 := V4.fr 3
      have zf4 := V4.fr 4
      have zf5 := V4.fr 5
      have zlt := V4.lt
      simp only [List.getElem?_toArray, List.getElem?_cons_zero, List.getElem?_cons_succ] at z0 z1 z2 z3 z4 z5
      have bs := but_setB w2 (w.heap.size + 1 + 1 + 1) (.int .i64 b.me) (.slice p1 q1 s1) (.slice p2 q2 s2) (.slice p3 q3 s3) (.slice p4 q4 s4) (.slice p5 q5 s5)
      have FB := Lib.hid (setB_box V4 (.int .i64 b.me) (.slice p1 q1 s1) (.slice p2 q2 s2) (.slice p3 q3 s3) (.slice p4 q4 s4) (.slice p5 q5 s5))
      have FC := Lib.hid (cp.but bs V4)
      have FL := Lib.hid (setB_below (b := w.heap.size + 1 + 1 + 1) (BW.out.trans (hb2.mono BW.out.size)) (by omega) (.int .i64 b.me) (.slice p1 q1 s1) (.slice p2 q2 s2) (.slice p3 q3 s3) (.slice p4 q4 s4) (.slice p5 q5 s5))
      have F2 := Lib.hid (bs.box (T2.out.on hb2) (by omega))
      have L1 := Lib.hid (show w.heap.size + 1 + 1 + 1 < w1.heap.size from T4.out.lt)
      clear V4 bs cp hb2 T1 T2 T4 HB
      go_upto_region 6 with fail
      clear z0 z1 z2 z3 z4 z5 zf0 zf1 zf2 zf3 zf4 zf5 zlt
      unfold setB at FB FC FL F2
      generalize ((((((w2).setCell ⟨w.heap.size + 1 + 1 + 1, 0, none⟩ (.int .i64 b.me)).setCell ⟨w.heap.size + 1 + 1 + 1, 1, none⟩ (.slice p1 q1 s1)).setCell ⟨w.heap.size + 1 + 1 + 1, 2, none⟩ (.slice p2 q2 s2)).setCell ⟨w.heap.size + 1 + 1 + 1, 3, none⟩ (.slice p3 q3 s3)).setCell ⟨w.heap.size + 1 + 1 + 1, 4, none⟩ (.slice p4 q4 s4)).setCell ⟨w.heap.size + 1 + 1 + 1, 5, none⟩ (.slice p5 q5 s5) = w3 at *
      obtain ⟨le, hle1, hle2⟩ := FC.out.ent
      have hq4 : le.length = q4 := sl_len (Row.of_own hle1)
      have hlm : le.length = b.ent.length := hle2.len
      obtain ⟨g, rfl, hBg⟩ : ∃ g, p4 = some ⟨g, 0, none⟩ ∧ w1.heap.size ≤ g := own_some hle1 (show 0 < q4 by omega)
      have KQ := Lib.hid (show k < q4 by omega)
      have DE := Lib.hid (del_any w1.heap.size g q4 s4 k le w3 hle1 (by omega) (by have := HF.out.ent; omega))
      have HL1 := Lib.hid hle1
      have HL2 := Lib.hid hle2
      have BG := Lib.hid hBg
      have N9 := Lib.hid (show q4 ≤ 900 by have := HF.out.ent; omega)
      have x4 := FB.out.cell 4
      simp only [List.getElem?_toArray, List.getElem?_cons_zero, List.getElem?_cons_succ] at x4
      have hw3 : IntKind.i64.wrap ((k : Int) + 1) = (k : Int) + 1 := IntWalk.i64_in _ (by have := HF.out.ent; omega)
      clear hle1 hle2 hq4 hlm hBg
      go_wp2_with fail
      refine DE.out.mono ?_
      rintro e4 w4 ⟨rfl, hown, hbut, hlow⟩
      have hoff : Off (slv (some ⟨g, 0, none⟩, q4, s4)).ownBlock w3 w4 := ⟨fun j hj hne => hbut.1 j hj fun e => hne (by rw [e]; rfl), hbut.2⟩
      have TG := tag_own HL1.out
      have CP := Lib.hid (FC.out.offN (ev' := (some ⟨g, 0, none⟩, q4 - 1, s4)) (el := cutAt b.ent k) hoff ⟨cutAt le k, hown, (fun {h} => ((h : All2 _ le b.ent).take k).append (h.drop (k + 1))) (h := HL2.out.mono fun _ _ q => q.off hoff TG (by decide))⟩)
      have G8 := hbut.box FB.out (show w.heap.size + 1 + 1 + 1 ≠ g by have := BG.out; have := L1.out; omega)
      have G2 := hbut.box F2.out (show w.heap.size + 1 ≠ g by have := BG.out; have := L1.out; omega)
      have BL := hlow w.heap.size w (by have := BG.out; have := L1.out; omega) FL.out
      clear x4 hw3
      have x4 := G8.cell 4
      have xf4 := G8.fr 4
      have xlt := G8.lt
      simp only [List.getElem?_toArray, List.getElem?_cons_zero, List.getElem?_cons_succ] at x4
      have bs := but_cell w4 (w.heap.size + 1 + 1 + 1) 4 (.slice (some ⟨g, 0, none⟩) (q4 - 1) s4)
      have CP5 := Lib.hid (CP.out.but bs G8)
      have G25 := Lib.hid (bs.box G2 (by omega))
      have BL5 := Lib.hid (BL.setCell (p := ⟨w.heap.size + 1 + 1 + 1, 4, none⟩) (show w.heap.size ≤ w.heap.size + 1 + 1 + 1 by omega) (.slice (some ⟨g, 0, none⟩) (q4 - 1) s4))
      have G85 := Lib.hid (show Box (w4.setCell ⟨w.heap.size + 1 + 1 + 1, 4, none⟩ (.slice (some ⟨g, 0, none⟩) (q4 - 1) s4)) (w.heap.size + 1 + 1 + 1) #[.int .i64 b.me, .slice p1 q1 s1, .slice p2 q2 s2, .slice p3 q3 s3, .slice (some ⟨g, 0, none⟩) (q4 - 1) s4, .slice p5 q5 s5] 34 by simpa using box_set (k := 4) G8 (.slice (some ⟨g, 0, none⟩) (q4 - 1) s4))
      have S5 := Lib.hid (show w1.heap.size ≤ (w4.setCell ⟨w.heap.size + 1 + 1 + 1, 4, none⟩ (.slice (some ⟨g, 0, none⟩) (q4 - 1) s4)).heap.size by have := hbut.2; have h2 := FL.out.size; obtain ⟨cur, hg⟩ := own_tag hown; have := hg.lt; have := BG.out; simp; omega)
      clear hown hbut hlow hoff TG CP G8 G2 BL bs FB FC FL F2 HL1 HL2 DE le
      go_upto_region 7 with fail
      clear x4 xf4 xlt
      generalize w4.setCell ⟨w.heap.size + 1 + 1 + 1, 4, none⟩ (.slice (some ⟨g, 0, none⟩) (q4 - 1) s4) = w5 at *
      obtain ⟨n4, hn4⟩ : ∃ n, n = q4 - 1 := ⟨_, rfl⟩
      rw [← hn4] at G85 CP5 ⊢
      have NN := Lib.hid hn4
      clear hn4
      cases y7
      · have LQ := Lib.hid (show takeB b (c, d) (g0, h0) f = ({ b with ent := cutAt b.ent k }, [], false) from by
          rw [← takeF_eq HR.out]
          unfold takeF
          rw [FE.out]
          simp only
          rw [if_neg (by rw [EF.out]; simpa using YF.out), if_pos EU.out, HK.out])
        have G8 := Lib.hid G85.out
        have BQ := Lib.hid BL5.out
        clear G85 BL5 S5
        generalize w5 = wq at *
        have Q3 := G8.out
        have z0 := Q3.cell 0
        have z1 := Q3.cell 1
        have z2 := Q3.cell 2
        have z3 := Q3.cell 3
        have z4 := Q3.cell 4
        have z5 := Q3.cell 5
        have zf0 := Q3.fr 0
        have zf1 := Q3.fr 1
        have zf2 := Q3.fr 2
        have zf3 := Q3.fr 3
        have zf4 := Q3.fr 4
        have zf5 := Q3.fr 5
        have zlt := Q3.lt
        simp only [List.getElem?_toArray, List.getElem?_cons_zero, List.getElem?_cons_succ] at z0 z1 z2 z3 z4 z5
        have bs := but_setB wq (w.heap.size + 1 + 1 + 1) (.int .i64 b.me) (.slice p1 q1 s1) (.slice p2 q2 s2) (.slice p3 q3 s3) (.slice (some ⟨g, 0, none⟩) n4 s4) (.slice p5 q5 s5)
        have FB := Lib.hid (setB_box Q3 (.int .i64 b.me) (.slice p1 q1 s1) (.slice p2 q2 s2) (.slice p3 q3 s3) (.slice (some ⟨g, 0, none⟩) n4 s4) (.slice p5 q5 s5))
        have FC := Lib.hid (CP5.out.but bs Q3)
        have FL := Lib.hid (setB_below (b := w.heap.size + 1 + 1 + 1) BQ.out (by omega) (.int .i64 b.me) (.slice p1 q1 s1) (.slice p2 q2 s2) (.slice p3 q3 s3) (.slice (some ⟨g, 0, none⟩) n4 s4) (.slice p5 q5 s5))
        clear Q3 bs
        go_wp2_with fail
        clear z0 z1 z2 z3 z4 z5
        have v0 := FB.out.cell 0
        have v1 := FB.out.cell 1
        have v2 := FB.out.cell 2
        have v3 := FB.out.cell 3
        have v4 := FB.out.cell 4
        have v5 := FB.out.cell 5
        simp at v0 v1 v2 v3 v4 v5
        refine bodyPost_ret (v := .tuple #[.agg #[.int .i64 b.me, .slice p1 q1 s1, .slice p2 q2 s2, .slice p3 q3 s3, .slice (some ⟨g, 0, none⟩) n4 s4, .slice p5 q5 s5], .slice none 0 0, .bool false]) (by simp [results, Try.results10, go_sem, v0, v1, v2, v3, v4, v5]) rfl ?_
        rw [LQ.out]
        exact ⟨⟨(p1, q1, s1), (p2, q2, s2), (p3, q3, s3), (some ⟨g, 0, none⟩, n4, s4), (p5, q5, s5), (none, 0, 0), [], rfl, FC.out.br FL.out, row_nil _, .nil, fun _ => ⟨_, FC.out.near⟩⟩, FL.out⟩
      · obtain ⟨m, hm⟩ : ∃ m, cutAt b.ent k = m := ⟨_, rfl⟩
        rw [hm] at CP5
        have RM := Lib.hid (show RiseE m by rw [← hm]; exact HR.out.sublist (cut_sub _ _))
        have OM := Lib.hid (show ∀ e ∈ m, PredOk e.p by rw [← hm]; exact fun e he => OK.out e (mem_cut he))
        have LQ := Lib.hid (show takeB b (c, d) (g0, h0) f = ({ b with ent := m.take (fromT m (c, d)) ++ (raiseK (brE m (c, d)) (brE m (c, d)).length).1 ++ m.drop (fromT m (c, d) + (brE m (c, d)).length) }, (raiseK (brE m (c, d)) (brE m (c, d)).length).2, true) from by
          rw [← takeF_eq HR.out]
          unfold takeF
          rw [FE.out]
          simp only
          rw [if_neg (by rw [EF.out]; simpa using YF.out), if_neg (by rw [EU.out]; simp), HK.out, hm])
        have LM := Lib.hid (show m.length = n4 by rw [← hm]; obtain ⟨l, h1, h2⟩ := CP5.out.ent; rw [hm, ← h2.len]; exact sl_len (Row.of_own h1))
        clear hm
        obtain ⟨l5, hl1, hl2⟩ := CP5.out.ent
        replace hl2 : All2 (EnM w w1.heap.size w5) l5 m := hl2
        replace hl1 : OwnN w5 w1.heap.size (.slice (some ⟨g, 0, none⟩) n4 s4) l5 := hl1
        have hin : All2 (EnIn w5) l5 m := hl2.mono fun _ _ q => enm_in q (BL5.out)
        have hfk := fromT_len m (c, d)
        have h9 := N9.out
        have hnn := NN.out
        have hlm := LM.out
        have hll : l5.length = m.length := hl2.len
        have hcap : n4 ≤ s4 := by
          rcases own_open hl1 with ⟨h1, _⟩ | ⟨g', cap', cur, h1, _, _, h4, _⟩
          · cases h1
          · obtain ⟨_, _, rfl⟩ : g = g' ∧ n4 = l5.length ∧ s4 = cap' := by simpa using h1
            omega
        have BR_ := Lib.hid (branch_any (some ⟨g, 0, none⟩, n4, s4) l5 m (c, d) w5 (Row.of_own hl1) hin RM.out (by omega))
        have eb : (m.drop (fromT m (c, d))).take (brE m (c, d)).length = brE m (c, d) := by
          unfold brE
          conv => lhs; arg 2; rw [← List.takeWhile_append_dropWhile (p := fun e : En => decide (e.tree = (c, d))) (l := m.drop (fromT m (c, d)))]
          rw [List.take_left]
        have RA := Lib.hid (fun (w6 : World) (hb : Below w5.heap.size w5 w6) (ra : Option Addr) (rc : Nat) hra => raise_any w w1.heap.size g n4 s4 (fromT m (c, d)) (brE m (c, d)).length ra rc l5 m w6 (BL5.out.trans (hb.mono BL5.out.size)) BW.out.size (Bk.own_on hl1 hb) (hl2.mono fun _ _ q => q.grow hb) (by omega) (by omega) hra OM.out)
        rw [eb] at RA
        generalize hf5 : fromT m (c, d) = f5 at *
        generalize hb5 : brE m (c, d) = bm at *
        have HC := Lib.hid hcap
        have HFK := Lib.hid hfk
        clear hl1 hl2 hin h9 hnn hlm hll hfk eb hf5 hb5 hcap
        have x4 := G85.out.cell 4
        simp only [List.getElem?_toArray, List.getElem?_cons_zero, List.getElem?_cons_succ] at x4
        have y0 := G25.out.cell 0
        have y1 := G25.out.cell 1
        simp only [List.getElem?_toArray, List.getElem?_cons_zero, List.getElem?_cons_succ] at y0 y1
        unfold cutV at BR_
        simp only at BR_
        obtain ⟨ra, hra⟩ : ∃ x, (if s4 = f5 then (⟨g, 0, none⟩ : Addr) else (⟨g, 0, none⟩ : Addr).add (f5 * 7)) = x := ⟨_, rfl⟩
        rw [hra] at BR_
        have HRA := Lib.hid hra
        clear hra
        go_wp2_with fail
        refine BR_.out.mono ?_
        rintro e6 w6 ⟨rfl, hb⟩
        have RB := RA.out w6 hb (some ra) (s4 - f5) (fun hK => ⟨by rw [← HRA.out, if_neg (by have := HC.out; have := HFK.out; have := LM.out; omega), add_own], rfl⟩)
        have H6 := Lib.hid hb
        have C6 := Lib.hid (CP5.out.grow hb)
        have G86 := Lib.hid (G85.out.on hb)
        have BL6 := Lib.hid (BL5.out.trans (hb.mono BL5.out.size))
        clear x4 y0 y1 hb BR_ RA
        go_wp2_with fail
        refine RB.mono ?_
        rintro e7 wq ⟨⟨vo1, vo2, vo3⟩, rfl, hRa⟩
        obtain ⟨⟨lq, hq1, hq2⟩, ⟨lu, hu1, hu2⟩, hbut, hlow⟩ := hRa
        have hoff : Off (slv (some ⟨g, 0, none⟩, n4, s4)).ownBlock w6 wq := ⟨fun j hj hne => hbut.1 j hj fun e => hne (by rw [e]; rfl), hbut.2⟩
        have CQ := Lib.hid (C6.out.offN (ev' := (some ⟨g, 0, none⟩, n4, s4)) hoff ⟨lq, hq1, hq2⟩)
        have G8 := Lib.hid (hbut.box G86.out (show w.heap.size + 1 + 1 + 1 ≠ g by have := BG.out; have := L1.out; omega))
        have BQ := Lib.hid (hlow w.heap.size w (by have := BG.out; have := L1.out; omega) BL6.out)
        have UP1 := Lib.hid hu1
        have UP2 := Lib.hid hu2
        clear hq1 hq2 hu1 hu2 hbut hlow hoff RB C6 G86 BL6 G85 CP5 BL5 H6
        have Q3 := G8.out
        have z0 := Q3.cell 0
        have z1 := Q3.cell 1
        have z2 := Q3.cell 2
        have z3 := Q3.cell 3
        have z4 := Q3.cell 4
        have z5 := Q3.cell 5
        have zf0 := Q3.fr 0
        have zf1 := Q3.fr 1
        have zf2 := Q3.fr 2
        have zf3 := Q3.fr 3
        have zf4 := Q3.fr 4
        have zf5 := Q3.fr 5
        have zlt := Q3.lt
        simp only [List.getElem?_toArray, List.getElem?_cons_zero, List.getElem?_cons_succ] at z0 z1 z2 z3 z4 z5
        have bs := but_setB wq (w.heap.size + 1 + 1 + 1) (.int .i64 b.me) (.slice p1 q1 s1) (.slice p2 q2 s2) (.slice p3 q3 s3) (.slice (some ⟨g, 0, none⟩) n4 s4) (.slice p5 q5 s5)
        have FB := Lib.hid (setB_box Q3 (.int .i64 b.me) (.slice p1 q1 s1) (.slice p2 q2 s2) (.slice p3 q3 s3) (.slice (some ⟨g, 0, none⟩) n4 s4) (.slice p5 q5 s5))
        have FC := Lib.hid (CQ.out.but bs Q3)
        have FL := Lib.hid (setB_below (b := w.heap.size + 1 + 1 + 1) BQ.out (by omega) (.int .i64 b.me) (.slice p1 q1 s1) (.slice p2 q2 s2) (.slice p3 q3 s3) (.slice (some ⟨g, 0, none⟩) n4 s4) (.slice p5 q5 s5))
        have FU := Lib.hid (bs.own UP1.out Q3 (by decide))
        have FV := Lib.hid (UP2.out.mono fun _ _ q => EnM.but q bs Q3 (by decide))
        clear Q3 bs
        go_wp2_with fail
        clear z0 z1 z2 z3 z4 z5
        have v0 := FB.out.cell 0
        have v1 := FB.out.cell 1
        have v2 := FB.out.cell 2
        have v3 := FB.out.cell 3
        have v4 := FB.out.cell 4
        have v5 := FB.out.cell 5
        simp at v0 v1 v2 v3 v4 v5
        refine bodyPost_ret (v := .tuple #[.agg #[.int .i64 b.me, .slice p1 q1 s1, .slice p2 q2 s2, .slice p3 q3 s3, .slice (some ⟨g, 0, none⟩) n4 s4, .slice p5 q5 s5], .slice vo1 vo2 vo3, .bool true]) (by simp [results, Try.results10, go_sem, v0, v1, v2, v3, v4, v5]) rfl ?_
        rw [LQ.out]
        exact ⟨⟨(p1, q1, s1), (p2, q2, s2), (p3, q3, s3), (some ⟨g, 0, none⟩, n4, s4), (p5, q5, s5), (vo1, vo2, vo3), lu, rfl, FC.out.br FL.out, Row.of_own FU.out, FV.out.mono fun _ _ q => enm_in q FL.out, fun _ => ⟨_, FC.out.near⟩⟩, FL.out⟩
    · have hne : (y6 != f) = true := by simp [hyf]
      have YF := Lib.hid hyf
      clear hyf x4
      have LQ := Lib.hid (show takeB b (c, d) (g0, h0) f = (b, [], false) from by
        rw [← takeF_eq HR.out]
        unfold takeF
        rw [FE.out]
        simp only
        rw [if_pos (by rw [EF.out]; exact YF.out)])
      have Q1 := T1.out
      have Q3 := T4.out
      have x0 := Q1.cell 0
      have x1 := Q1.cell 1
      have x2 := Q1.cell 2
      have x3 := Q1.cell 3
      have x4 := Q1.cell 4
      have x5 := Q1.cell 5
      simp only [List.getElem?_toArray, List.getElem?_cons_zero, List.getElem?_cons_succ] at x0 x1 x2 x3 x4 x5
      have z0 := Q3.cell 0
      have z1 := Q3.cell 1
      have z2 := Q3.cell 2
      have z3 := Q3.cell 3
      have z4 := Q3.cell 4
      have z5 := Q3.cell 5
      have zf0 := Q3.fr 0
      have zf1 := Q3.fr 1
      have zf2 := Q3.fr 2
      have zf3 := Q3.fr 3
      have zf4 := Q3.fr 4
      have zf5 := Q3.fr 5
      have zlt := Q3.lt
      simp only [List.getElem?_toArray, List.getElem?_cons_zero, List.getElem?_cons_succ] at z0 z1 z2 z3 z4 z5
      have FB := Lib.hid (setB_box Q3 (.int .i64 b.me) (.slice no nn nc) (.slice ao an ac) (.slice so sn sc) (.slice eo en ec) (.slice oo on_ oc))
      have FL := Lib.hid (setB_below (b := w.heap.size + 1 + 1 + 1) BW.out (by omega) (.int .i64 b.me) (.slice no nn nc) (.slice ao an ac) (.slice so sn sc) (.slice eo en ec) (.slice oo on_ oc))
      clear Q1 Q3
      go_wp2_with fail
      clear z0 z1 z2 z3 z4 z5
      have v0 := FB.out.cell 0
      have v1 := FB.out.cell 1
      have v2 := FB.out.cell 2
      have v3 := FB.out.cell 3
      have v4 := FB.out.cell 4
      have v5 := FB.out.cell 5
      simp at v0 v1 v2 v3 v4 v5
      refine bodyPost_ret (v := .tuple #[.agg #[.int .i64 b.me, .slice no nn nc, .slice ao an ac, .slice so sn sc, .slice eo en ec, .slice oo on_ oc], .slice none 0 0, .bool false]) (by simp [results, Try.results10, go_sem, v0, v1, v2, v3, v4, v5]) rfl ?_
      rw [LQ.out]
      exact ⟨⟨(no, nn, nc), (ao, an, ac), (so, sn, sc), (eo, en, ec), (oo, on_, oc), (none, 0, 0), [], rfl, HH.out.on FL.out, row_nil _, .nil, fun h => h.on FL.out⟩, FL.out⟩
end Go.Proofs.Ytncogjpmboglhaa.Sb
