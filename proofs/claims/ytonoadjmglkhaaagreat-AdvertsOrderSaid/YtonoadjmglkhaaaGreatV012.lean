/-
  CopyBroker of broadsidekeep: the same in new memory. Condition: at most 900 of each.
  copyAdvert of package adverts: the same in new memory. Condition: at most 900 constraints.
  A broker's rows lie in no block that holds a broker: what a store into such a block leaves. No program's function in it.
-/
import Derived.Test.YtonoadjmglkhaaaGreatV010
import Derived.Test.YtonoadjmglkhaaaGreatV011
namespace Go.Proofs.YtonoadjmglkhaaaGreat.Bk
open Go.RowKit Go.Sort Go.Proofs.YtonoadjmglkhaaaGreat Go.Proofs.YtonoadjmglkhaaaGreat.Rw Go.Proofs.YtonoadjmglkhaaaGreat.Nm Go.Proofs.YtonoadjmglkhaaaGreat.Pr

/-- A broker whose rows are one's own. -/
structure BrOwn (W : World) (B : Nat) (b : Br) (nv av sv ev ov : Sl) : Prop where
  near : OwnI W B (slv nv) b.near
  adv : ∃ l, OwnD W B (slv av) l ∧ All2 (AdIn W) l b.adv
  seen : OwnJ W B (slv sv) b.seen
  ent : ∃ l, OwnN W B (slv ev) l ∧ All2 (EnIn W) l b.ent
  own : ∃ l, OwnW W B (slv ov) l ∧ All2 (OwIn W) l b.own
theorem BrOwn.br {W : World} {B : Nat} {b : Br} {nv av sv ev ov : Sl} (h : BrOwn W B b nv av sv ev ov) : BrIn W b nv av sv ev ov where
  near := Row.of_own h.near
  adv := by obtain ⟨l, h1, h2⟩ := h.adv; exact ⟨l, Row.of_own h1, h2⟩
  seen := Row.of_own h.seen
  ent := by obtain ⟨l, h1, h2⟩ := h.ent; exact ⟨l, Row.of_own h1, h2⟩
  own := by obtain ⟨l, h1, h2⟩ := h.own; exact ⟨l, Row.of_own h1, h2⟩
/-- Each of a broker's rows is short. -/
structure Few (b : Br) : Prop where
  near : b.near.length ≤ 900
  adv : b.adv.length ≤ 900
  seen : b.seen.length ≤ 900
  ent : b.ent.length ≤ 900
  own : b.own.length ≤ 900
set_option maxRecDepth 100000 in
set_option maxHeartbeats 16000000 in
theorem copy_any (b : Br) (nv av sv ev ov : Sl) (w : World) (h : BrIn w b nv av sv ev ov) (hf : Few b) :
    Calls Tryz.prog 8 #[brv b.me nv av sv ev ov] w fun e w' => (∃ nv' av' sv' ev' ov' : Sl, e = .returned (brv b.me nv' av' sv' ev' ov') ∧ BrOwn w' w.heap.size b nv' av' sv' ev' ov') ∧ Below w.heap.size w w' := by
  obtain ⟨no, nn, nc⟩ := nv
  obtain ⟨ao, an, ac⟩ := av
  obtain ⟨so, sn, sc⟩ := sv
  obtain ⟨eo, en, ec⟩ := ev
  obtain ⟨oo, on_, oc⟩ := ov
  obtain ⟨la, ha1, ha2⟩ := h.adv
  obtain ⟨le, he1, he2⟩ := h.ent
  obtain ⟨lo_, ho1, ho2⟩ := h.own
  have HA := Lib.hid ha2
  have HE := Lib.hid he2
  have HO := Lib.hid ho2
  have R0 := Lib.hid h.near
  have R1 := Lib.hid ha1
  have R2 := Lib.hid h.seen
  have R3 := Lib.hid he1
  have R4 := Lib.hid ho1
  have LL0 := Lib.hid hf.near
  have LL1 := Lib.hid (show la.length ≤ 900 by rw [ha2.len]; exact hf.adv)
  have LL2 := Lib.hid hf.seen
  have LL3 := Lib.hid (show le.length ≤ 900 by rw [he2.len]; exact hf.ent)
  have LL4 := Lib.hid (show lo_.length ≤ 900 by rw [ho2.len]; exact hf.own)
  obtain ⟨h0, h1, h2⟩ := two_new w #[.int .i64 b.me, .slice no nn nc, .slice ao an ac, .slice so sn sc, .slice eo en ec, .slice oo on_ oc] #[.int .i64 0, .slice none 0 0, .slice none 0 0, .slice none 0 0, .slice none 0 0, .slice none 0 0] 29 29
  obtain ⟨me, hme⟩ : ∃ me, me = b.me := ⟨_, rfl⟩
  simp only [← hme] at h0 h1 h2 ⊢
  have B0 := Lib.hid h0
  have XB0 := Lib.hid h1
  have ZB0 := Lib.hid h2
  clear h0 h1 h2 h hf ha1 ha2 he1 he2 ho1 ho2 hme
  go_enter Tryz.func8, Tryz.ntmps8
  go_upto_region 1 with fail
  generalize (w.alloc (.cells #[.int .i64 me, .slice no nn nc, .slice ao an ac, .slice so sn sc, .slice eo en ec, .slice oo on_ oc] 29)).alloc (.cells #[.int .i64 0, .slice none 0 0, .slice none 0 0, .slice none 0 0, .slice none 0 0, .slice none 0 0] 29) = W at *
  obtain ⟨q0, w0, r0, o0, g0⟩ := app_fresh Nm.okI (w.heap.size + 2) (box_new W #[] 3) (by have := XB0.out.lt; have := ZB0.out.lt; omega) ((R0.out.on B0.out).on (newB W (.cells #[] 3))) (by have := LL0.out; omega) 23
  obtain ⟨a0, c0, hv0⟩ := (Row.of_own o0).len
  obtain ⟨l0, hl0⟩ : ∃ n, n = (b.near).length := ⟨_, rfl⟩
  rw [← hl0] at hv0
  subst hv0
  have G0 := (newB W (.cells #[] 3)).trans (g0.mono (newB W (.cells #[] 3)).size)
  have X0a := XB0.out.on G0
  have x0 := (XB0.out.on (newB W (.cells #[] 3))).cell 1
  have y0 := X0a.cell 1
  have f0 := X0a.fr 1
  have z0 := X0a.lt
  simp only [List.getElem?_toArray, List.getElem?_cons_zero, List.getElem?_cons_succ] at x0 y0
  have XB1 := Lib.hid (show Box _ _ #[.int .i64 me, .slice a0 l0 c0, .slice ao an ac, .slice so sn sc, .slice eo en ec, .slice oo on_ oc] _ from by simpa using box_set (k := 1) X0a (.slice a0 l0 c0))
  have ZB1 := Lib.hid (show Box _ _ _ _ from (RowKit.Below.heap_setCell w0 ⟨w.heap.size, 1, none⟩ (.slice a0 l0 c0) _ (show w.heap.size + 1 ≠ w.heap.size by omega)).trans (ZB0.out.on G0))
  have B1 := Lib.hid (((B0.out.trans (G0.mono B0.out.size)).setCell (p := ⟨w.heap.size, 1, none⟩) (Nat.le_refl _) (.slice a0 l0 c0)))
  have O1_0 := Lib.hid (own_cell o0 w.heap.size 1 (.slice a0 l0 c0) (by omega))
  clear X0a G0 o0 g0 hl0 XB0 ZB0 
  go_upto_region 2 with (first | (at_builtin; refine wpList_append_run rfl _ _ 23 rfl rfl rfl r0 ?_) | fail)
  clear r0 x0 y0 f0 z0
  generalize w0.setCell ⟨w.heap.size, 1, none⟩ (.slice a0 l0 c0) = W1 at *
  obtain ⟨q1, w1, r1, o1, g1⟩ := app_fresh okD (w.heap.size + 2) (box_new W1 #[] 42) (by have := XB1.out.lt; have := ZB1.out.lt; omega) ((R1.out.on B1.out).on (newB W1 (.cells #[] 42))) (by have := LL1.out; omega) 24
  obtain ⟨a1, c1, hv1⟩ := (Row.of_own o1).len
  obtain ⟨l1, hl1⟩ : ∃ n, n = (la).length := ⟨_, rfl⟩
  rw [← hl1] at hv1
  subst hv1
  have G1 := (newB W1 (.cells #[] 42)).trans (g1.mono (newB W1 (.cells #[] 42)).size)
  have X1a := XB1.out.on G1
  have x1 := (XB1.out.on (newB W1 (.cells #[] 42))).cell 2
  have y1 := X1a.cell 2
  have f1 := X1a.fr 2
  have z1 := X1a.lt
  simp only [List.getElem?_toArray, List.getElem?_cons_zero, List.getElem?_cons_succ] at x1 y1
  have XB2 := Lib.hid (show Box _ _ #[.int .i64 me, .slice a0 l0 c0, .slice a1 l1 c1, .slice so sn sc, .slice eo en ec, .slice oo on_ oc] _ from by simpa using box_set (k := 2) X1a (.slice a1 l1 c1))
  have ZB2 := Lib.hid (show Box _ _ _ _ from (RowKit.Below.heap_setCell w1 ⟨w.heap.size, 2, none⟩ (.slice a1 l1 c1) _ (show w.heap.size + 1 ≠ w.heap.size by omega)).trans (ZB1.out.on G1))
  have B2 := Lib.hid (((B1.out.trans (G1.mono B1.out.size)).setCell (p := ⟨w.heap.size, 2, none⟩) (Nat.le_refl _) (.slice a1 l1 c1)))
  have O2_0 := Lib.hid (own_cell (own_on O1_0.out G1) w.heap.size 2 (.slice a1 l1 c1) (by omega))
  have O2_1 := Lib.hid (own_cell o1 w.heap.size 2 (.slice a1 l1 c1) (by omega))
  clear X1a G1 o1 g1 hl1 XB1 ZB1 O1_0
  go_upto_region 3 with (first | (at_builtin; refine wpList_append_run rfl _ _ 24 rfl rfl rfl r1 ?_) | fail)
  clear r1 x1 y1 f1 z1
  generalize w1.setCell ⟨w.heap.size, 2, none⟩ (.slice a1 l1 c1) = W2 at *
  obtain ⟨q2, w2, r2, o2, g2⟩ := app_fresh okJ (w.heap.size + 2) (box_new W2 #[] 37) (by have := XB2.out.lt; have := ZB2.out.lt; omega) ((R2.out.on B2.out).on (newB W2 (.cells #[] 37))) (by have := LL2.out; omega) 25
  obtain ⟨a2, c2, hv2⟩ := (Row.of_own o2).len
  obtain ⟨l2, hl2⟩ : ∃ n, n = (b.seen).length := ⟨_, rfl⟩
  rw [← hl2] at hv2
  subst hv2
  have G2 := (newB W2 (.cells #[] 37)).trans (g2.mono (newB W2 (.cells #[] 37)).size)
  have X2a := XB2.out.on G2
  have x2 := (XB2.out.on (newB W2 (.cells #[] 37))).cell 3
  have y2 := X2a.cell 3
  have f2 := X2a.fr 3
  have z2 := X2a.lt
  simp only [List.getElem?_toArray, List.getElem?_cons_zero, List.getElem?_cons_succ] at x2 y2
  have XB3 := Lib.hid (show Box _ _ #[.int .i64 me, .slice a0 l0 c0, .slice a1 l1 c1, .slice a2 l2 c2, .slice eo en ec, .slice oo on_ oc] _ from by simpa using box_set (k := 3) X2a (.slice a2 l2 c2))
  have ZB3 := Lib.hid (show Box _ _ _ _ from (RowKit.Below.heap_setCell w2 ⟨w.heap.size, 3, none⟩ (.slice a2 l2 c2) _ (show w.heap.size + 1 ≠ w.heap.size by omega)).trans (ZB2.out.on G2))
  have B3 := Lib.hid (((B2.out.trans (G2.mono B2.out.size)).setCell (p := ⟨w.heap.size, 3, none⟩) (Nat.le_refl _) (.slice a2 l2 c2)))
  have O3_0 := Lib.hid (own_cell (own_on O2_0.out G2) w.heap.size 3 (.slice a2 l2 c2) (by omega))
  have O3_1 := Lib.hid (own_cell (own_on O2_1.out G2) w.heap.size 3 (.slice a2 l2 c2) (by omega))
  have O3_2 := Lib.hid (own_cell o2 w.heap.size 3 (.slice a2 l2 c2) (by omega))
  clear X2a G2 o2 g2 hl2 XB2 ZB2 O2_0 O2_1
  go_upto_region 4 with (first | (at_builtin; refine wpList_append_run rfl _ _ 25 rfl rfl rfl r2 ?_) | fail)
  clear r2 x2 y2 f2 z2
  generalize w2.setCell ⟨w.heap.size, 3, none⟩ (.slice a2 l2 c2) = W3 at *
  obtain ⟨q3, w3, r3, o3, g3⟩ := app_fresh okN (w.heap.size + 2) (box_new W3 #[] 58) (by have := XB3.out.lt; have := ZB3.out.lt; omega) ((R3.out.on B3.out).on (newB W3 (.cells #[] 58))) (by have := LL3.out; omega) 26
  obtain ⟨a3, c3, hv3⟩ := (Row.of_own o3).len
  obtain ⟨l3, hl3⟩ : ∃ n, n = (le).length := ⟨_, rfl⟩
  rw [← hl3] at hv3
  subst hv3
  have G3 := (newB W3 (.cells #[] 58)).trans (g3.mono (newB W3 (.cells #[] 58)).size)
  have X3a := XB3.out.on G3
  have x3 := (XB3.out.on (newB W3 (.cells #[] 58))).cell 4
  have y3 := X3a.cell 4
  have f3 := X3a.fr 4
  have z3 := X3a.lt
  simp only [List.getElem?_toArray, List.getElem?_cons_zero, List.getElem?_cons_succ] at x3 y3
  have XB4 := Lib.hid (show Box _ _ #[.int .i64 me, .slice a0 l0 c0, .slice a1 l1 c1, .slice a2 l2 c2, .slice a3 l3 c3, .slice oo on_ oc] _ from by simpa using box_set (k := 4) X3a (.slice a3 l3 c3))
  have ZB4 := Lib.hid (show Box _ _ _ _ from (RowKit.Below.heap_setCell w3 ⟨w.heap.size, 4, none⟩ (.slice a3 l3 c3) _ (show w.heap.size + 1 ≠ w.heap.size by omega)).trans (ZB3.out.on G3))
  have B4 := Lib.hid (((B3.out.trans (G3.mono B3.out.size)).setCell (p := ⟨w.heap.size, 4, none⟩) (Nat.le_refl _) (.slice a3 l3 c3)))
  have O4_0 := Lib.hid (own_cell (own_on O3_0.out G3) w.heap.size 4 (.slice a3 l3 c3) (by omega))
  have O4_1 := Lib.hid (own_cell (own_on O3_1.out G3) w.heap.size 4 (.slice a3 l3 c3) (by omega))
  have O4_2 := Lib.hid (own_cell (own_on O3_2.out G3) w.heap.size 4 (.slice a3 l3 c3) (by omega))
  have O4_3 := Lib.hid (own_cell o3 w.heap.size 4 (.slice a3 l3 c3) (by omega))
  clear X3a G3 o3 g3 hl3 XB3 ZB3 O3_0 O3_1 O3_2
  go_upto_region 5 with (first | (at_builtin; refine wpList_append_run rfl _ _ 26 rfl rfl rfl r3 ?_) | fail)
  clear r3 x3 y3 f3 z3
  generalize w3.setCell ⟨w.heap.size, 4, none⟩ (.slice a3 l3 c3) = W4 at *
  obtain ⟨q4, w4, r4, o4, g4⟩ := app_fresh okW (w.heap.size + 2) (box_new W4 #[] 60) (by have := XB4.out.lt; have := ZB4.out.lt; omega) ((R4.out.on B4.out).on (newB W4 (.cells #[] 60))) (by have := LL4.out; omega) 27
  obtain ⟨a4, c4, hv4⟩ := (Row.of_own o4).len
  obtain ⟨l4, hl4⟩ : ∃ n, n = (lo_).length := ⟨_, rfl⟩
  rw [← hl4] at hv4
  subst hv4
  have G4 := (newB W4 (.cells #[] 60)).trans (g4.mono (newB W4 (.cells #[] 60)).size)
  have X4a := XB4.out.on G4
  have x4 := (XB4.out.on (newB W4 (.cells #[] 60))).cell 5
  have y4 := X4a.cell 5
  have f4 := X4a.fr 5
  have z4 := X4a.lt
  simp only [List.getElem?_toArray, List.getElem?_cons_zero, List.getElem?_cons_succ] at x4 y4
  have XB5 := Lib.hid (show Box _ _ #[.int .i64 me, .slice a0 l0 c0, .slice a1 l1 c1, .slice a2 l2 c2, .slice a3 l3 c3, .slice a4 l4 c4] _ from by simpa using box_set (k := 5) X4a (.slice a4 l4 c4))
  have ZB5 := Lib.hid (show Box _ _ _ _ from (RowKit.Below.heap_setCell w4 ⟨w.heap.size, 5, none⟩ (.slice a4 l4 c4) _ (show w.heap.size + 1 ≠ w.heap.size by omega)).trans (ZB4.out.on G4))
  have B5 := Lib.hid (((B4.out.trans (G4.mono B4.out.size)).setCell (p := ⟨w.heap.size, 5, none⟩) (Nat.le_refl _) (.slice a4 l4 c4)))
  have O5_0 := Lib.hid (own_cell (own_on O4_0.out G4) w.heap.size 5 (.slice a4 l4 c4) (by omega))
  have O5_1 := Lib.hid (own_cell (own_on O4_1.out G4) w.heap.size 5 (.slice a4 l4 c4) (by omega))
  have O5_2 := Lib.hid (own_cell (own_on O4_2.out G4) w.heap.size 5 (.slice a4 l4 c4) (by omega))
  have O5_3 := Lib.hid (own_cell (own_on O4_3.out G4) w.heap.size 5 (.slice a4 l4 c4) (by omega))
  have O5_4 := Lib.hid (own_cell o4 w.heap.size 5 (.slice a4 l4 c4) (by omega))
  clear X4a G4 o4 g4 hl4 XB4 ZB4 O4_0 O4_1 O4_2 O4_3
  go_upto_region 6 with (first | (at_builtin; refine wpList_append_run rfl _ _ 27 rfl rfl rfl r4 ?_) | fail)
  clear r4 x4 y4 f4 z4
  generalize w4.setCell ⟨w.heap.size, 5, none⟩ (.slice a4 l4 c4) = W5 at *
  have X2a := XB5.out
  have X5a := ZB5.out
  have x0 := X2a.cell 0
  have x1 := X2a.cell 1
  have x2 := X2a.cell 2
  have x3 := X2a.cell 3
  have x4 := X2a.cell 4
  have x5 := X2a.cell 5
  have r0 := X5a.cell 0
  have r1 := X5a.cell 1
  have r2 := X5a.cell 2
  have r3 := X5a.cell 3
  have r4 := X5a.cell 4
  have r5 := X5a.cell 5
  have t0 := X5a.fr 0
  have t1 := X5a.fr 1
  have t2 := X5a.fr 2
  have t3 := X5a.fr 3
  have t4 := X5a.fr 4
  have t5 := X5a.fr 5
  simp only [List.getElem?_toArray, List.getElem?_cons_zero, List.getElem?_cons_succ] at x0 x1 x2 x3 x4 x5 r0 r1 r2 r3 r4 r5
  have zz := X5a.lt
  have FB := Lib.hid (setB_box X5a (.int .i64 me) (.slice a0 l0 c0) (.slice a1 l1 c1) (.slice a2 l2 c2) (.slice a3 l3 c3) (.slice a4 l4 c4))
  have BL := Lib.hid (setB_below (b := w.heap.size + 1) B5.out (by omega) (.int .i64 me) (.slice a0 l0 c0) (.slice a1 l1 c1) (.slice a2 l2 c2) (.slice a3 l3 c3) (.slice a4 l4 c4))
  have F0 := Lib.hid (setB_ownA O5_0.out (w.heap.size + 1) (by omega) (.int .i64 me) (.slice a0 l0 c0) (.slice a1 l1 c1) (.slice a2 l2 c2) (.slice a3 l3 c3) (.slice a4 l4 c4))
  have F1 := Lib.hid (setB_ownA O5_1.out (w.heap.size + 1) (by omega) (.int .i64 me) (.slice a0 l0 c0) (.slice a1 l1 c1) (.slice a2 l2 c2) (.slice a3 l3 c3) (.slice a4 l4 c4))
  have F2 := Lib.hid (setB_ownA O5_2.out (w.heap.size + 1) (by omega) (.int .i64 me) (.slice a0 l0 c0) (.slice a1 l1 c1) (.slice a2 l2 c2) (.slice a3 l3 c3) (.slice a4 l4 c4))
  have F3 := Lib.hid (setB_ownA O5_3.out (w.heap.size + 1) (by omega) (.int .i64 me) (.slice a0 l0 c0) (.slice a1 l1 c1) (.slice a2 l2 c2) (.slice a3 l3 c3) (.slice a4 l4 c4))
  have F4 := Lib.hid (setB_ownA O5_4.out (w.heap.size + 1) (by omega) (.int .i64 me) (.slice a0 l0 c0) (.slice a1 l1 c1) (.slice a2 l2 c2) (.slice a3 l3 c3) (.slice a4 l4 c4))
  clear X2a X5a
  go_wp2_with fail
  have v0 := FB.out.cell 0
  have v1 := FB.out.cell 1
  have v2 := FB.out.cell 2
  have v3 := FB.out.cell 3
  have v4 := FB.out.cell 4
  have v5 := FB.out.cell 5
  simp at v0 v1 v2 v3 v4 v5
  refine bodyPost_ret (v := .agg #[.int .i64 me, .slice a0 l0 c0, .slice a1 l1 c1, .slice a2 l2 c2, .slice a3 l3 c3, .slice a4 l4 c4]) (by simp [results, Tryz.results8, go_sem, v0, v1, v2, v3, v4, v5]) rfl ?_
  exact ⟨⟨(a0, l0, c0), (a1, l1, c1), (a2, l2, c2), (a3, l3, c3), (a4, l4, c4), rfl, own_fewer F0.out (by omega), ⟨la, own_fewer F1.out (by omega), HA.out.mono fun _ _ h => h.on BL.out⟩, own_fewer F2.out (by omega), ⟨le, own_fewer F3.out (by omega), HE.out.mono fun _ _ h => h.on BL.out⟩, ⟨lo_, own_fewer F4.out (by omega), HO.out.mono fun _ _ h => h.on BL.out⟩⟩, BL.out⟩
end Go.Proofs.YtonoadjmglkhaaaGreat.Bk

namespace Go.Proofs.YtonoadjmglkhaaaGreat.Av
open Go.RowKit Go.Sort Go.Proofs.YtonoadjmglkhaaaGreat Go.Proofs.YtonoadjmglkhaaaGreat.Rw Go.Proofs.YtonoadjmglkhaaaGreat.Nm Go.Proofs.YtonoadjmglkhaaaGreat.Pr Go.Proofs.YtonoadjmglkhaaaGreat.Bk

/-- Four stores of an advertisement. -/
abbrev setD (W : World) (b : Nat) (a0 a1 a2 a3 : Value) : World := (((W.setCell ⟨b, 0, none⟩ a0).setCell ⟨b, 1, none⟩ a1).setCell ⟨b, 2, none⟩ a2).setCell ⟨b, 3, none⟩ a3
theorem setD_box {W : World} {b : Nat} {t : TypeId} {z0 z1 z2 z3 : Value} (h : Box W b #[z0, z1, z2, z3] t) (a0 a1 a2 a3 : Value) : Box (setD W b a0 a1 a2 a3) b #[a0, a1, a2, a3] t := by
  have h2 := box_set (k := 3) (box_set (k := 2) (box_set (k := 1) (box_set (k := 0) h a0) a1) a2) a3
  simpa using h2
theorem setD_below {B : Nat} {W0 W : World} {b : Nat} (h : Below B W0 W) (hb : B ≤ b) (a0 a1 a2 a3 : Value) : Below B W0 (setD W b a0 a1 a2 a3) :=
  (((h.setCell (p := ⟨b, 0, none⟩) hb a0).setCell (p := ⟨b, 1, none⟩) hb a1).setCell (p := ⟨b, 2, none⟩) hb a2).setCell (p := ⟨b, 3, none⟩) hb a3
theorem setD_own {α : Type} {E : Ek α} {W : World} {B : Nat} {v : Value} {l : List α} (h : Own E W B v l) (b : Nat) (hb : b < B) (a0 a1 a2 a3 : Value) : Own E (setD W b a0 a1 a2 a3) B v l :=
  own_cell (own_cell (own_cell (own_cell h b 0 a0 hb) b 1 a1 hb) b 2 a2 hb) b 3 a3 hb
theorem setD_other {W : World} {b c : Nat} {cs : Array Value} {t : TypeId} (h : Box W c cs t) (hne : c ≠ b) (a0 a1 a2 a3 : Value) : Box (setD W b a0 a1 a2 a3) c cs t := by
  have h1 : Box _ _ _ _ := (RowKit.Below.heap_setCell W ⟨b, 0, none⟩ a0 _ hne).trans h
  have h2 : Box _ _ _ _ := (RowKit.Below.heap_setCell _ ⟨b, 1, none⟩ a1 _ hne).trans h1
  have h3 : Box _ _ _ _ := (RowKit.Below.heap_setCell _ ⟨b, 2, none⟩ a2 _ hne).trans h2
  exact (RowKit.Below.heap_setCell _ ⟨b, 3, none⟩ a3 _ hne).trans h3
set_option maxRecDepth 100000 in
set_option maxHeartbeats 8000000 in
theorem cpAd_any (x : XAd) (p : List C5) (w : World) (hp : RowC w (slv x.2.2.1) p) (hl : p.length ≤ 900) :
    Calls Tryz.prog 31 #[valD x] w fun e w' => (∃ v' : Sl, e = .returned (valD (x.1, x.2.1, v', x.2.2.2)) ∧ OwnC w' w.heap.size (slv v') p) ∧ Below w.heap.size w w' := by
  obtain ⟨a, b, ⟨s1, s2, s3⟩, q⟩ := x
  obtain ⟨h0, X, Y⟩ := two_new w #[.int .i64 a, .int .i64 b, .slice s1 s2 s3, .int .i64 q] #[.int .i64 0, .int .i64 0, .slice none 0 0, .int .i64 0] 42 42
  have C := Lib.hid (cloneC_any (s1, s2, s3) p _ (hp.on h0) hl)
  have B := Lib.hid h0
  have x2 := X.cell 2
  simp only [List.getElem?_toArray, List.getElem?_cons_zero, List.getElem?_cons_succ] at x2
  have X := Lib.hid X
  have Y := Lib.hid Y
  clear h0 hp hl
  go_enter Tryz.func31, Tryz.ntmps31
  go_wp2_with fail
  generalize (w.alloc (.cells #[.int .i64 a, .int .i64 b, .slice s1 s2 s3, .int .i64 q] 42)).alloc (.cells #[.int .i64 0, .int .i64 0, .slice none 0 0, .int .i64 0] 42) = W at *
  refine C.out.mono ?_
  rintro e w1 ⟨⟨⟨u1, u2, u3⟩, rfl, ho⟩, hb⟩
  have X1 := X.out.on hb
  have Y1 := Y.out.on hb
  have hs : w.heap.size < W.heap.size := X.out.lt
  have O1 := Lib.hid (own_cell ho w.heap.size 2 (.slice u1 u2 u3) hs)
  have XB := Lib.hid (show Box _ _ #[.int .i64 a, .int .i64 b, .slice u1 u2 u3, .int .i64 q] _ from by simpa using box_set (k := 2) X1 (.slice u1 u2 u3))
  have YB := Lib.hid (show Box _ _ _ _ from (RowKit.Below.heap_setCell w1 ⟨w.heap.size, 2, none⟩ (.slice u1 u2 u3) _ (show w.heap.size + 1 ≠ w.heap.size by omega)).trans Y1)
  have B1 := Lib.hid ((B.out.trans (hb.mono B.out.size)).setCell (p := ⟨w.heap.size, 2, none⟩) (Nat.le_refl _) (.slice u1 u2 u3))
  have y2 := X1.cell 2
  have f2 := X1.fr 2
  have z2 := X1.lt
  simp only [List.getElem?_toArray, List.getElem?_cons_zero, List.getElem?_cons_succ] at y2
  clear X1 Y1 ho hb x2 C
  go_upto_region 2 with fail
  clear y2 f2 z2
  generalize w1.setCell ⟨w.heap.size, 2, none⟩ (.slice u1 u2 u3) = w2 at *
  have x0 := XB.out.cell 0
  have x1 := XB.out.cell 1
  have x2 := XB.out.cell 2
  have x3 := XB.out.cell 3
  have r0 := YB.out.cell 0
  have r1 := YB.out.cell 1
  have r2 := YB.out.cell 2
  have r3 := YB.out.cell 3
  have t0 := YB.out.fr 0
  have t1 := YB.out.fr 1
  have t2 := YB.out.fr 2
  have t3 := YB.out.fr 3
  simp only [List.getElem?_toArray, List.getElem?_cons_zero, List.getElem?_cons_succ] at x0 x1 x2 x3 r0 r1 r2 r3
  have zz := YB.out.lt
  have hs2 : w.heap.size + 1 < W.heap.size := Y.out.lt
  have FB := Lib.hid (setD_box YB.out (.int .i64 a) (.int .i64 b) (.slice u1 u2 u3) (.int .i64 q))
  have BL := Lib.hid (setD_below (b := w.heap.size + 1) B1.out (by omega) (.int .i64 a) (.int .i64 b) (.slice u1 u2 u3) (.int .i64 q))
  have FO := Lib.hid (setD_own O1.out (w.heap.size + 1) hs2 (.int .i64 a) (.int .i64 b) (.slice u1 u2 u3) (.int .i64 q))
  have HS := Lib.hid hs
  clear hs hs2
  go_wp2_with fail
  have v0 := FB.out.cell 0
  have v1 := FB.out.cell 1
  have v2 := FB.out.cell 2
  have v3 := FB.out.cell 3
  simp at v0 v1 v2 v3
  refine bodyPost_ret (v := .agg #[.int .i64 a, .int .i64 b, .slice u1 u2 u3, .int .i64 q]) (by simp [results, Tryz.results31, go_sem, v0, v1, v2, v3]) rfl ?_
  exact ⟨⟨(u1, u2, u3), rfl, own_fewer FO.out (Nat.le_of_lt HS.out)⟩, BL.out⟩
end Go.Proofs.YtonoadjmglkhaaaGreat.Av

namespace Go.Proofs.YtonoadjmglkhaaaGreat.Bk
open Go.RowKit Go.Proofs.YtonoadjmglkhaaaGreat Go.Proofs.YtonoadjmglkhaaaGreat.Rw Go.Proofs.YtonoadjmglkhaaaGreat.Nm Go.Proofs.YtonoadjmglkhaaaGreat.Pr

theorem cell_box {W : World} {b : Nat} {cs : Array Value} {t : TypeId} (hb : Box W b cs t) {a : Addr} {v : Value} (h : W.cell? a = some v) (e : a.block = b) : cs[a.off]? = some v := by
  unfold World.cell? at h
  unfold Box at hb
  rw [e, hb] at h
  have h2 : a.spot = none ∧ cs[a.off]? = some v := by simpa using h
  exact h2.2
theorem cell_keep {W W' : World} {b : Nat} (hk : ∀ j, j < W.heap.size → j ≠ b → W'.heap[j]? = W.heap[j]?) {a : Addr} {v : Value} (h : W.cell? a = some v) (e : a.block ≠ b) : W'.cell? a = some v := by
  have hlt := World.block_lt_of_cell? W _ h
  unfold World.cell? at h ⊢
  rw [hk _ hlt e]
  exact h
theorem add_blk (a : Addr) (j : Nat) : (a.add j).block = a.block := by unfold Addr.add; split <;> rfl
/-- A row of which no element can begin in such a block. -/
theorem row_keep {α : Type} {E : Ek α} (_K : E.Ok) {W W' : World} {b : Nat} {v : Value} {l : List α} (h : Row E W v l) (hk : ∀ j, j < W.heap.size → j ≠ b → W'.heap[j]? = W.heap[j]?) (hno : ∀ (a : Addr) (c : α), (∀ j u, (E.cells c)[j]? = some u → W.cell? (a.add j) = some u) → a.block ≠ b) : Row E W' v l := by
  rcases h with h | ⟨a, cap, h1, h2, h3, h4⟩
  · exact Or.inl h
  · refine Or.inr ⟨a, cap, h1, h2, h3, fun j u hj => ?_⟩
    cases l with
    | nil => simp [flat] at hj
    | cons c r =>
      have hne : a.block ≠ b := hno a c fun j u hj => h4 j u (by
        rw [flat, List.getElem?_append_left (by exact (List.getElem?_eq_some_iff.1 hj).1)]
        exact hj)
      exact cell_keep hk (h4 j u hj) (by rw [add_blk]; exact hne)
/-- Elements that begin with two numbers lie in no block in which no two numbers stand side by side. -/
theorem two_ints {α : Type} {E : Ek α} {W : World} {b : Nat} {cs : Array Value} {t : TypeId} (hb : Box W b cs t) (hE : ∀ c : α, ∃ i j : Int, (E.cells c)[0]? = some (.int .i64 i) ∧ (E.cells c)[1]? = some (.int .i64 j)) (hcs : ∀ (k : Nat) (i j : Int), cs[k]? = some (.int .i64 i) → cs[k + 1]? = some (.int .i64 j) → False) (a : Addr) (c : α) (h : ∀ j u, (E.cells c)[j]? = some u → W.cell? (a.add j) = some u) : a.block ≠ b := fun e => by
  obtain ⟨i, j, h0, h1⟩ := hE c
  have c0 := cell_box hb (h 0 _ h0) (by rw [add_blk]; exact e)
  have c1 := cell_box hb (h 1 _ h1) (by rw [add_blk]; exact e)
  have o0 : (a.add 0).off = a.off := by rw [Addr.add_zero']
  have o1 : (a.add 1).off = a.off + 1 := by rw [add_pos _ _ (by decide)]
  rw [o0] at c0
  rw [o1] at c1
  exact hcs a.off i j c0 c1
theorem no_text {W : World} {b : Nat} {cs : Array Value} {t : TypeId} (hb : Box W b cs t) (hcs : ∀ (k : Nat) (s : ByteArray), cs[k]? ≠ some (.string s)) (a : Addr) (c : C5) (h : ∀ j u, (EC.cells c)[j]? = some u → W.cell? (a.add j) = some u) : a.block ≠ b := fun e => by
  have c0 := cell_box hb (h 0 _ rfl) (by rw [add_blk]; exact e)
  exact hcs _ _ c0
theorem br_ints (me : Int) (s1 s2 s3 s4 s5 : Sl) : ∀ (k : Nat) (i j : Int), (brcells me s1 s2 s3 s4 s5)[k]? = some (.int .i64 i) → (brcells me s1 s2 s3 s4 s5)[k + 1]? = some (.int .i64 j) → False := by
  intro k i j h1 h2
  match k with
  | 0 => simp at h2
  | 1 => simp at h1
  | 2 => simp at h1
  | 3 => simp at h1
  | 4 => simp at h1
  | 5 => simp at h1
  | k + 6 => simp at h1
theorem br_text (me : Int) (s1 s2 s3 s4 s5 : Sl) : ∀ (k : Nat) (s : ByteArray), (brcells me s1 s2 s3 s4 s5)[k]? ≠ some (.string s) := by
  intro k s h
  match k with
  | 0 => simp at h
  | 1 => simp at h
  | 2 => simp at h
  | 3 => simp at h
  | 4 => simp at h
  | 5 => simp at h
  | k + 6 => simp at h
/-- A store into a broker's variable leaves a broker's rows, if it leaves its neighbours. -/
theorem brin_keep {W W' : World} {k : Nat} {me : Int} {s1 s2 s3 s4 s5 : Sl} {b : Br} {nv av sv ev ov : Sl} (h : BrIn W b nv av sv ev ov) (hb : Box W k (brcells me s1 s2 s3 s4 s5) 29) (hk : ∀ j, j < W.heap.size → j ≠ k → W'.heap[j]? = W.heap[j]?) (hn : RowI W' (slv nv) b.near) : BrIn W' b nv av sv ev ov where
  near := hn
  adv := by
    obtain ⟨l, h1, h2⟩ := h.adv
    exact ⟨l, row_keep okD h1 hk (two_ints hb (fun c => ⟨_, _, rfl, rfl⟩) (br_ints me s1 s2 s3 s4 s5)), h2.mono fun x a hx => ⟨hx.1, hx.2.1, row_keep okC hx.2.2 hk (no_text hb (br_text me s1 s2 s3 s4 s5))⟩⟩
  seen := row_keep okJ h.seen hk (two_ints hb (fun c => ⟨_, _, rfl, rfl⟩) (br_ints me s1 s2 s3 s4 s5))
  ent := by
    obtain ⟨l, h1, h2⟩ := h.ent
    exact ⟨l, row_keep okN h1 hk (two_ints hb (fun c => ⟨_, _, rfl, rfl⟩) (br_ints me s1 s2 s3 s4 s5)), h2.mono fun x a hx => ⟨hx.1, hx.2.1, hx.2.2.1, hx.2.2.2.1, row_keep okC hx.2.2.2.2 hk (no_text hb (br_text me s1 s2 s3 s4 s5))⟩⟩
  own := by
    obtain ⟨l, h1, h2⟩ := h.own
    exact ⟨l, row_keep okW h1 hk (two_ints hb (fun c => ⟨_, _, rfl, rfl⟩) (br_ints me s1 s2 s3 s4 s5)), h2.mono fun x a hx => ⟨hx.1, row_keep okC hx.2 hk (no_text hb (br_text me s1 s2 s3 s4 s5))⟩⟩
end Go.Proofs.YtonoadjmglkhaaaGreat.Bk
