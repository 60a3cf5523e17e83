/-
  Learn of broadsideref9: a broker with one advertisement more, if it was not seen. Condition: at most 900 of each.
  Rows that rise by an ID: where one stands, is it there. No program's function in it.
  slices.BinarySearchFunc over IDs, as package adverts calls it. Condition: they rise; at most 900 of them.
-/
import Derived.Test.YtonoadjmglkhaaaGreatU014
import Derived.Test.YtonoadjmglkhaaaGreatU015
import Derived.Test.YtonoadjmglkhaaaGreatU004
import Derived.Deep.LoopGhost
import Derived.Laws.Externs
namespace Go.Proofs.YtonoadjmglkhaaaGreat.Bk
open Go.RowKit Go.Sort Go.Proofs.YtonoadjmglkhaaaGreat Go.Proofs.YtonoadjmglkhaaaGreat.Rw Go.Proofs.YtonoadjmglkhaaaGreat.Nm Go.Proofs.YtonoadjmglkhaaaGreat.Pr

def insAt {α : Type} (l : List α) (k : Nat) (x : α) : List α := l.take k ++ [x] ++ l.drop k
def learnB (b : Br) (a : Ad) : Br × Bool := if a.id ∈ b.seen then (b, false) else ({ b with seen := insAt b.seen (placeI b.seen a.id) a.id, adv := insAt b.adv (placeI (b.adv.map Ad.id) a.id) a }, true)
abbrev setB (W : World) (b : Nat) (a0 a1 a2 a3 a4 a5 : Value) : World := (((((W.setCell ⟨b, 0, none⟩ a0).setCell ⟨b, 1, none⟩ a1).setCell ⟨b, 2, none⟩ a2).setCell ⟨b, 3, none⟩ a3).setCell ⟨b, 4, none⟩ a4).setCell ⟨b, 5, none⟩ a5
theorem setB_box {W : World} {b : Nat} {t : TypeId} {z0 z1 z2 z3 z4 z5 : Value} (h : Box W b #[z0, z1, z2, z3, z4, z5] t) (a0 a1 a2 a3 a4 a5 : Value) : Box (setB W b a0 a1 a2 a3 a4 a5) b #[a0, a1, a2, a3, a4, a5] t := by
  have h2 := box_set (k := 5) (box_set (k := 4) (box_set (k := 3) (box_set (k := 2) (box_set (k := 1) (box_set (k := 0) h a0) a1) a2) a3) a4) a5
  simp only [List.setIfInBounds_toArray, List.set_cons_zero, List.set_cons_succ] at h2
  exact h2
theorem setB_below {w W : World} {B b : Nat} (h : Below B w W) (hb : B ≤ b) (a0 a1 a2 a3 a4 a5 : Value) : Below B w (setB W b a0 a1 a2 a3 a4 a5) :=
  (((((h.setCell hb _).setCell hb _).setCell hb _).setCell hb _).setCell hb _).setCell hb _
theorem setB_heap (W : World) (b : Nat) (a0 a1 a2 a3 a4 a5 : Value) (j : Nat) (hj : j ≠ b) : (setB W b a0 a1 a2 a3 a4 a5).heap[j]? = W.heap[j]? := by
  have h : ∀ (W : World) (k : Nat) (x : Value), (W.setCell ⟨b, k, none⟩ x).heap[j]? = W.heap[j]? := fun W k x => RowKit.Below.heap_setCell W _ x _ hj
  unfold setB
  rw [h, h, h, h, h, h]
theorem setB_ownA {α : Type} {E : Ek α} {W : World} {B : Nat} {v : Value} {l : List α} (h : Own E W B v l) (b : Nat) (hb : b < B) (a0 a1 a2 a3 a4 a5 : Value) : Own E (setB W b a0 a1 a2 a3 a4 a5) B v l :=
  own_cell (own_cell (own_cell (own_cell (own_cell (own_cell h b 0 a0 hb) b 1 a1 hb) b 2 a2 hb) b 3 a3 hb) b 4 a4 hb) b 5 a5 hb
theorem three_new (w : World) (c d e : Array Value) (r s t : TypeId) : Below w.heap.size w (((w.alloc (.cells c r)).alloc (.cells d s)).alloc (.cells e t)) ∧ Box (((w.alloc (.cells c r)).alloc (.cells d s)).alloc (.cells e t)) w.heap.size c r ∧ Box (((w.alloc (.cells c r)).alloc (.cells d s)).alloc (.cells e t)) (w.heap.size + 1) d s ∧ Box (((w.alloc (.cells c r)).alloc (.cells d s)).alloc (.cells e t)) (w.heap.size + 1 + 1) e t := by
  refine ⟨(((Below.refl _ _).alloc (Nat.le_refl _) _).alloc (by simp) _).alloc (by simp; omega) _, ((box_new w c r).more _).more _, ?_, ?_⟩
  · have h := (box_new (w.alloc (.cells c r)) d s).more (.cells e t)
    simpa using h
  · have h := box_new ((w.alloc (.cells c r)).alloc (.cells d s)) e t
    simpa using h
theorem box_twoJ {W : World} {b : Nat} {c d : Int} {p q : Value} (h : Box W b #[.int .i64 c, .int .i64 d, p, q] 42) : ∀ x, Below W.heap.size W x → ∀ j u, (cellsJ (c, d))[j]? = some u → x.cell? ((⟨b, 0, none⟩ : Addr).add j) = some u := by
  intro x hb j u hj
  rw [add_own, (h.on hb).cell]
  match j with
  | 0 => exact hj
  | 1 => exact hj
  | j + 2 => simp at hj
theorem box_fourD {W : World} {b : Nat} {c d q : Int} {p : Sl} (h : Box W b #[.int .i64 c, .int .i64 d, slv p, .int .i64 q] 42) : ∀ x, Below W.heap.size W x → ∀ j u, (cellsD (c, d, p, q))[j]? = some u → x.cell? ((⟨b, 0, none⟩ : Addr).add j) = some u := by
  intro x hb j u hj
  rw [add_own, (h.on hb).cell]
  match j with
  | 0 => exact hj
  | 1 => exact hj
  | 2 => exact hj
  | 3 => exact hj
  | j + 4 => simp at hj
theorem ids_eq {W : World} {l : List XAd} {m : List Ad} (h : All2 (AdIn W) l m) : (l.map fun y => (y.1, y.2.1)) = m.map Ad.id := by
  induction h with
  | nil => rfl
  | cons x t ih => rw [List.map_cons, List.map_cons, ih, x.1]
theorem place_le (l : List Id) (x : Id) : placeI l x ≤ l.length := by
  unfold placeI
  exact (List.takeWhile_sublist _).length_le
theorem own_high {α : Type} {E : Ek α} {W : World} {B : Nat} {v : Value} {l : List α} {b : Nat} (h : Own E W B v l) (hb : b < B) : v.ownBlock = none ∨ v.ownBlock ≠ some b := by
  cases hv : v.ownBlock with
  | none => exact Or.inl rfl
  | some j =>
    refine Or.inr fun e => ?_
    injection e with e
    have := (h.lt j hv).1
    omega
set_option maxRecDepth 100000 in
set_option maxHeartbeats 16000000 in
theorem rlearn_any (b : Br) (nv av sv ev ov : Sl) (z : XAd) (a : Ad) (w : World) (h : BrIn w b nv av sv ev ov) (hz : AdIn w z a) (l1 : b.seen.length ≤ 900) (l2 : b.adv.length ≤ 900) :
    Calls Tryz.prog 11 #[brv b.me nv av sv ev ov, valD z] w fun e w' => (∃ av' sv' : Sl, e = .returned (.tuple #[brv b.me nv av' sv' ev ov, .bool (learnB b a).2]) ∧ BrIn w' (learnB b a).1 nv av' sv' ev ov) ∧ Below w.heap.size w w' := by
  obtain ⟨no, nn, nc⟩ := nv
  obtain ⟨ao, an, ac⟩ := av
  obtain ⟨so, sn, sc⟩ := sv
  obtain ⟨eo, en, ec⟩ := ev
  obtain ⟨oo, on_, oc⟩ := ov
  obtain ⟨c, d, ⟨po, pn, pc⟩, par⟩ := z
  obtain ⟨xs, hx1, hx2⟩ := h.adv
  have HZ := Lib.hid hz
  have IDS := Lib.hid (ids_eq hx2)
  have XL := Lib.hid (show xs.length ≤ 900 by rw [hx2.len]; exact l2)
  have hs := h.seen
  have HA2 := Lib.hid hx2
  obtain ⟨q1, q2, hq⟩ := hs.len
  obtain ⟨rfl, rfl, rfl⟩ : so = q1 ∧ sn = b.seen.length ∧ sc = q2 := by
    have : Value.slice so sn sc = .slice q1 b.seen.length q2 := hq
    simpa using this
  obtain ⟨q1, q2, hq⟩ := hx1.len
  obtain ⟨rfl, rfl, rfl⟩ : ao = q1 ∧ an = xs.length ∧ ac = q2 := by
    have : Value.slice ao an ac = .slice q1 xs.length q2 := hq
    simpa using this
  have SN := rseen_any b.me (.slice no nn nc) (.slice ao xs.length ac) (.slice eo en ec) (.slice oo on_ oc) (so, b.seen.length, sc) b.seen (c, d)
  have HH := Lib.hid h
  obtain ⟨h0, h1, h2, h3⟩ := three_new w #[.int .i64 b.me, .slice no nn nc, .slice ao xs.length ac, .slice so b.seen.length sc, .slice eo en ec, .slice oo on_ oc] #[.int .i64 c, .int .i64 d, .slice po pn pc, .int .i64 par] #[.int .i64 0, .slice none 0 0, .slice none 0 0, .slice none 0 0, .slice none 0 0, .slice none 0 0] 29 42 29
  obtain ⟨n1, hn1⟩ : ∃ n, n = b.seen.length := ⟨_, rfl⟩
  obtain ⟨n2, hn2⟩ : ∃ n, n = xs.length := ⟨_, rfl⟩
  have HD := hx1
  simp only [← hn1, ← hn2] at h0 h1 h2 h3 hs HD HH SN ⊢
  have B0 := Lib.hid h0
  have X2 := Lib.hid h1
  have X3 := Lib.hid h2
  have X4 := Lib.hid h3
  have HS := Lib.hid hs
  have HD := Lib.hid HD
  have N1 := Lib.hid hn1
  have N2 := Lib.hid hn2
  have L1 := Lib.hid l1
  have AI := Lib.hid hz.1
  have hme : ∃ me, me = b.me := ⟨_, rfl⟩
  obtain ⟨me, hme⟩ := hme
  simp only [← hme] at X2 B0 X3 X4 SN ⊢
  clear h0 h1 h2 h3 hs hx1 hx2 h hz hq hn1 hn2 l1 l2 hme
  go_enter Tryz.func11, Tryz.ntmps11
  go_upto_region 1 with fail
  generalize (((w.alloc (.cells #[.int .i64 me, .slice no nn nc, .slice ao n2 ac, .slice so n1 sc, .slice eo en ec, .slice oo on_ oc] 29)).alloc (.cells #[.int .i64 c, .int .i64 d, .slice po pn pc, .int .i64 par] 42)).alloc (.cells #[.int .i64 0, .slice none 0 0, .slice none 0 0, .slice none 0 0, .slice none 0 0, .slice none 0 0] 29)) = W at *
  have SW := Lib.hid (SN W (HS.out.on B0.out))
  clear SN
  have x0 := X2.out.cell 0
  have x1 := X2.out.cell 1
  have x2 := X2.out.cell 2
  have x3 := X2.out.cell 3
  have x4 := X2.out.cell 4
  have x5 := X2.out.cell 5
  have y0 := X3.out.cell 0
  have y1 := X3.out.cell 1
  have y2 := X3.out.cell 2
  have y3 := X3.out.cell 3
  simp only [List.getElem?_toArray, List.getElem?_cons_zero, List.getElem?_cons_succ] at x0 x1 x2 x3 x4 x5 y0 y1 y2 y3
  cases hsn : decide ((c, d) ∈ b.seen) with
  | true =>
    have LB := Lib.hid (show learnB b a = (b, false) from if_pos (by rw [← AI.out]; exact of_decide_eq_true hsn))
    rw [hsn] at SW
    clear hsn
    go_wp2_with fail
    refine SW.out.mono ?_
    rintro e1 w1 ⟨rfl, hb⟩
    have B1 := Lib.hid (B0.out.trans (hb.mono B0.out.size))
    have X2a := X2.out.on hb
    have X4a := X4.out.on hb
    clear SW x0 x1 x2 x3 x4 x5 y0 y1 y2 y3
    have x0 := X2a.cell 0
    have x1 := X2a.cell 1
    have x2 := X2a.cell 2
    have x3 := X2a.cell 3
    have x4 := X2a.cell 4
    have x5 := X2a.cell 5
    have r0 := X4a.cell 0
    have r1 := X4a.cell 1
    have r2 := X4a.cell 2
    have r3 := X4a.cell 3
    have r4 := X4a.cell 4
    have r5 := X4a.cell 5
    have t0 := X4a.fr 0
    have t1 := X4a.fr 1
    have t2 := X4a.fr 2
    have t3 := X4a.fr 3
    have t4 := X4a.fr 4
    have t5 := X4a.fr 5
    simp only [List.getElem?_toArray, List.getElem?_cons_zero, List.getElem?_cons_succ] at x0 x1 x2 x3 x4 x5 r0 r1 r2 r3 r4 r5
    have zz := X4a.lt
    have FB := Lib.hid (setB_box X4a (.int .i64 me) (.slice no nn nc) (.slice ao n2 ac) (.slice so n1 sc) (.slice eo en ec) (.slice oo on_ oc))
    have BL := Lib.hid (setB_below (b := w.heap.size + 1 + 1) B1.out (by omega) (.int .i64 me) (.slice no nn nc) (.slice ao n2 ac) (.slice so n1 sc) (.slice eo en ec) (.slice oo on_ oc))
    clear hb X2 X3 X4 X2a X4a HS HD
    go_wp2_with fail
    have v0 := FB.out.cell 0
    have v1 := FB.out.cell 1
    have v2 := FB.out.cell 2
    have v3 := FB.out.cell 3
    have v4 := FB.out.cell 4
    have v5 := FB.out.cell 5
    simp at v0 v1 v2 v3 v4 v5
    refine bodyPost_ret (v := .tuple #[.agg #[.int .i64 me, .slice no nn nc, .slice ao n2 ac, .slice so n1 sc, .slice eo en ec, .slice oo on_ oc], .bool false]) (by simp [results, Tryz.results11, go_sem, v0, v1, v2, v3, v4, v5]) rfl ?_
    rw [LB.out]
    exact ⟨⟨(ao, n2, ac), (so, n1, sc), rfl, HH.out.on BL.out⟩, BL.out⟩
  | false =>
    have LB := Lib.hid (show learnB b a = ({ b with seen := insAt b.seen (placeI b.seen a.id) a.id, adv := insAt b.adv (placeI (b.adv.map Ad.id) a.id) a }, true) from if_neg (by rw [← AI.out]; exact of_decide_eq_false hsn))
    rw [hsn] at SW
    clear hsn
    go_wp2_with fail
    refine SW.out.mono ?_
    rintro e1 w1 ⟨rfl, hb⟩
    have B1 := Lib.hid (B0.out.trans (hb.mono B0.out.size))
    have Y2 := Lib.hid (X2.out.on hb)
    have Y3 := Lib.hid (X3.out.on hb)
    have Y4 := Lib.hid (X4.out.on hb)
    have S1 := Lib.hid (HS.out.on B1.out)
    clear SW hb X2 X3 X4 HS x0 x1 x2 x3 x4 x5 y0 y1 y2 y3
    go_upto_block 0 with (fail)
    refine learn_b0 _ w1 w.heap.size (w.heap.size + 1) me c d _ _ _ _ _ _ so n1 sc b.seen _ _ _ _ _ _ _ _ _ _ _ _ _ _ _ _ _ _ _ _ _ _ _ _ _ _ _ _ _ _ _ _ _ _ _ _ _ _ _ _ _ _ _ _ _ _ _ _ _ _ _ _ _ _ _ _ _ _ _ _ _ _ _ _ _ _ _ _ _ _ _ _ _ _ _ _ Y2.out Y3.out S1.out N1.out (by have := L1.out; have := N1.out; omega) ?_
    intro wr v12 v13 v14 v15 v16 v17 v18 v19 v20 v21 v22 v23 v24 v25 v26 v27 v28 hb
    have B2 := Lib.hid (B1.out.trans (hb.mono B1.out.size))
    have Z2 := Lib.hid (Y2.out.on hb)
    have Z3 := Lib.hid (Y3.out.on hb)
    have Z4 := Lib.hid (Y4.out.on hb)
    have S2 := Lib.hid (S1.out.on hb)
    clear hb B1 Y2 Y3 Y4 S1
    go_upto_region 6 with fail
    refine ins6 _ wr w.heap.size (w.heap.size + 1) me _ _ _ _ so n1 sc (placeI b.seen (c, d)) b.seen (c, d) _ _ _ _ _ _ _ _ _ _ _ _ _ _ _ _ _ _ _ _ _ _ _ _ _ _ _ _ _ _ _ _ _ _ _ _ _ _ _ _ _ _ _ _ _ _ _ _ _ _ _ _ _ _ _ _ _ _ _ _ _ _ _ _ _ _ _ _ _ _ _ _ _ _ _ _ Z2.out (box_twoJ Z3.out) S2.out (place_le _ _) L1.out ?_
    intro xw1 v29 v30 v31 v32 v33 v34 v35 v36 v37 v38 v39 v40 v41 v42 v43 v44 hbx ho hbl hoth hblk
    obtain ⟨sd1, sd2, hsv⟩ := (Row.of_own ho).len
    obtain ⟨sl, hsl⟩ : ∃ n, n = (b.seen.take (placeI b.seen (c, d)) ++ [(c, d)] ++ b.seen.drop (placeI b.seen (c, d))).length := ⟨_, rfl⟩
    rw [← hsl] at hsv
    subst hsv
    have B3 := Lib.hid (B2.out.trans (hbl _ (Nat.le_refl _)))
    have A2 := Lib.hid hbx
    have A3 := Lib.hid (hoth _ _ _ (by omega) Z3.out)
    have A4 := Lib.hid (hoth _ _ _ (by omega) Z4.out)
    have OS := Lib.hid (own_fewer ho (show w.heap.size + 3 ≤ wr.heap.size by have := Z4.out.lt; omega))
    have D3 := Lib.hid (HD.out.on B3.out)
    clear hbx ho hbl hoth hblk hsl B2 Z2 Z3 Z4 S2 HD
    go_upto_block 2 with (fail)
    refine learn_b2 _ xw1 w.heap.size (w.heap.size + 1) me c d _ _ _ _ _ _ ao n2 ac xs _ _ _ _ _ _ _ _ _ _ _ _ _ _ _ _ _ _ _ _ _ _ _ _ _ _ _ _ _ _ _ _ _ _ _ _ _ _ _ _ _ _ _ _ _ _ _ _ _ _ _ _ _ _ _ _ _ _ _ _ _ _ _ _ _ _ _ _ _ _ _ _ _ _ _ _ A2.out A3.out D3.out N2.out (by have := XL.out; have := N2.out; omega) ?_
    intro ws v45 v46 v47 v48 v49 v50 v51 v52 v53 v54 v55 v56 v57 v58 v59 v60 v61 v62 hb
    have B4 := Lib.hid (B3.out.trans (hb.mono B3.out.size))
    have C2 := Lib.hid (A2.out.on hb)
    have C3 := Lib.hid (A3.out.on hb)
    have C4 := Lib.hid (A4.out.on hb)
    have O4 := Lib.hid (own_on OS.out hb)
    have D4 := Lib.hid (D3.out.on hb)
    clear hb B3 A2 A3 A4 OS D3
    go_upto_region 10 with fail
    refine ins10 _ ws w.heap.size (w.heap.size + 1) me _ _ _ _ ao n2 ac (placeI (xs.map fun y => (y.1, y.2.1)) (c, d)) xs (c, d, (po, pn, pc), par) _ _ _ _ _ _ _ _ _ _ _ _ _ _ _ _ _ _ _ _ _ _ _ _ _ _ _ _ _ _ _ _ _ _ _ _ _ _ _ _ _ _ _ _ _ _ _ _ _ _ _ _ _ _ _ _ _ _ _ _ _ _ _ _ _ _ _ _ _ _ _ _ _ _ _ _ C2.out (box_fourD (p := (po, pn, pc)) C3.out) D4.out (by have := place_le (xs.map fun y => (y.1, y.2.1)) (c, d); rw [List.length_map] at this; exact this) XL.out ?_
    intro xw2 v63 v64 v65 v66 v67 v68 v69 v70 v71 v72 v73 v74 v75 v76 v77 hbx ho hbl hoth hblk
    obtain ⟨td1, td2, htv⟩ := (Row.of_own ho).len
    obtain ⟨tl, htl⟩ : ∃ n, n = (xs.take (placeI (xs.map fun y => (y.1, y.2.1)) (c, d)) ++ [(c, d, (po, pn, pc), par)] ++ xs.drop (placeI (xs.map fun y => (y.1, y.2.1)) (c, d))).length := ⟨_, rfl⟩
    rw [← htl] at htv
    subst htv
    have hb5 := hbl _ (Nat.le_refl w.heap.size)
    have B5 := Lib.hid (B4.out.trans hb5)
    have E2 := hbx
    have E4 := hoth _ _ _ (by omega) C4.out
    have OD := Lib.hid (own_fewer ho (show w.heap.size + 3 ≤ ws.heap.size by have := C4.out.lt; omega))
    have OS := Lib.hid (O4.out.kept (w' := xw2) (row := some w.heap.size) ⟨hb5.os, hb5.tape, hb5.output, hb5.size, fun k hk hne => hblk k hk (fun e => hne (by rw [e]))⟩ (own_high O4.out (by omega)))
    clear ho hbl hoth hblk htl hb5 hbx B4 C2 C3 C4 O4 D4
    have x0 := E2.cell 0
    have x1 := E2.cell 1
    have x2 := E2.cell 2
    have x3 := E2.cell 3
    have x4 := E2.cell 4
    have x5 := E2.cell 5
    have r0 := E4.cell 0
    have r1 := E4.cell 1
    have r2 := E4.cell 2
    have r3 := E4.cell 3
    have r4 := E4.cell 4
    have r5 := E4.cell 5
    have t0 := E4.fr 0
    have t1 := E4.fr 1
    have t2 := E4.fr 2
    have t3 := E4.fr 3
    have t4 := E4.fr 4
    have t5 := E4.fr 5
    simp only [List.getElem?_toArray, List.getElem?_cons_zero, List.getElem?_cons_succ] at x0 x1 x2 x3 x4 x5 r0 r1 r2 r3 r4 r5
    have zz := E4.lt
    have FB := Lib.hid (setB_box E4 (.int .i64 me) (.slice no nn nc) (.slice td1 tl td2) (.slice sd1 sl sd2) (.slice eo en ec) (.slice oo on_ oc))
    have BL := Lib.hid (setB_below (b := w.heap.size + 1 + 1) B5.out (by omega) (.int .i64 me) (.slice no nn nc) (.slice td1 tl td2) (.slice sd1 sl sd2) (.slice eo en ec) (.slice oo on_ oc))
    have FD := Lib.hid (setB_ownA OD.out (w.heap.size + 1 + 1) (by omega) (.int .i64 me) (.slice no nn nc) (.slice td1 tl td2) (.slice sd1 sl sd2) (.slice eo en ec) (.slice oo on_ oc))
    have FS := Lib.hid (setB_ownA OS.out (w.heap.size + 1 + 1) (by omega) (.int .i64 me) (.slice no nn nc) (.slice td1 tl td2) (.slice sd1 sl sd2) (.slice eo en ec) (.slice oo on_ oc))
    clear OD OS E2 E4
    go_wp2_with fail
    have v0 := FB.out.cell 0
    have v1 := FB.out.cell 1
    have v2 := FB.out.cell 2
    have v3 := FB.out.cell 3
    have v4 := FB.out.cell 4
    have v5 := FB.out.cell 5
    simp at v0 v1 v2 v3 v4 v5
    refine bodyPost_ret (v := .tuple #[.agg #[.int .i64 me, .slice no nn nc, .slice td1 tl td2, .slice sd1 sl sd2, .slice eo en ec, .slice oo on_ oc], .bool true]) (by simp [results, Tryz.results11, go_sem, v0, v1, v2, v3, v4, v5]) rfl ?_
    rw [LB.out]
    refine ⟨⟨(td1, tl, td2), (sd1, sl, sd2), rfl, ?_⟩, BL.out⟩
    have hI := HH.out.on BL.out
    refine ⟨hI.near, ⟨_, Row.of_own FD.out, ?_⟩, ?_, hI.ent, hI.own⟩
    · have hA := HA2.out.mono fun _ _ h => h.on BL.out
      rw [← AI.out, ← IDS.out]
      exact ((hA.take _).append (.cons (HZ.out.on BL.out) .nil)).append (hA.drop _)
    · rw [← AI.out]
      exact Row.of_own FS.out
end Go.Proofs.YtonoadjmglkhaaaGreat.Bk

namespace Go.Proofs.YtonoadjmglkhaaaGreat.Av
open Go.RowKit Go.Sort Go.Proofs.YtonoadjmglkhaaaGreat Go.Proofs.YtonoadjmglkhaaaGreat.Rw Go.Proofs.YtonoadjmglkhaaaGreat.Nm Go.Proofs.YtonoadjmglkhaaaGreat.Pr Go.Proofs.YtonoadjmglkhaaaGreat.Bk

/-- Rows that rise by a key. -/
def RiseK {α : Type} (key : α → XID) (l : List α) : Prop := l.Pairwise fun a b => lessI (key a) (key b) = true
def placeK {α : Type} (key : α → XID) (l : List α) (x : XID) : Nat := (l.takeWhile fun a => lessI (key a) x).length
def thereK {α : Type} (key : α → XID) (l : List α) (x : XID) : Bool := match l[placeK key l x]? with
  | some y => decide (key y = x)
  | none => false
theorem placeK_map {α : Type} (key : α → XID) (l : List α) (x : XID) : placeK key l x = placeI (l.map key) x := by
  unfold placeK placeI
  rw [List.takeWhile_map, List.length_map]
  rfl
theorem placeK_is {α : Type} (key : α → XID) (l : List α) (x : XID) (k : Nat) (hall : ∀ (j : Nat) (y : α), j < k → l[j]? = some y → lessI (key y) x = true) (hend : k = l.length ∨ ∃ y, l[k]? = some y ∧ lessI (key y) x = false) : placeK key l x = k := by
  rw [placeK_map]
  refine place_is _ _ k (fun j y hj h => ?_) ?_
  · rw [List.getElem?_map] at h
    cases hy : l[j]? with
    | none => rw [hy] at h; cases h
    | some z => rw [hy] at h; rw [← Option.some.inj h]; exact hall j z hj hy
  · rcases hend with h | ⟨y, h1, h2⟩
    · exact Or.inl (by rw [List.length_map]; exact h)
    · exact Or.inr ⟨key y, by rw [List.getElem?_map, h1]; rfl, h2⟩
theorem riseK_lt {α : Type} {key : α → XID} {l : List α} (h : RiseK key l) {i j : Nat} {x y : α} (hij : i < j) (hx : l[i]? = some x) (hy : l[j]? = some y) : lessI (key x) (key y) = true := by
  obtain ⟨h1, rfl⟩ := List.getElem?_eq_some_iff.1 hx
  obtain ⟨h2, rfl⟩ := List.getElem?_eq_some_iff.1 hy
  exact List.pairwise_iff_getElem.1 h i j h1 h2 hij
theorem cmpJ_less (x y : XID) : decide (cmpJ x y < 0) = lessI x y := by
  have h := cmpJ_neg x y
  cases hl : lessI x y
  · rw [hl] at h; simp at h; simpa using h
  · rw [hl] at h; simp at h; simpa using h
theorem thereK_in {α : Type} {key : α → XID} {l : List α} (h : RiseK key l) (x : XID) : thereK key l x = decide (x ∈ l.map key) := by
  unfold thereK
  have hp : placeK key l x ≤ l.length := by rw [placeK_map]; exact Nat.le_trans (place_le _ _) (by simp)
  have hlo : ∀ (j : Nat) (y : α), j < placeK key l x → l[j]? = some y → lessI (key y) x = true := by
    intro j y hj hy
    have ht : (l.takeWhile fun a => lessI (key a) x)[j]? = some y := by
      have := List.takeWhile_prefix (fun a => lessI (key a) x) (l := l)
      obtain ⟨t, ht⟩ := this
      rw [← ht, List.getElem?_append_left hj] at hy
      exact hy
    exact List.all_eq_true.1 List.all_takeWhile y (List.mem_of_getElem? ht)
  have hhi : ∀ (y : α), l[placeK key l x]? = some y → lessI (key y) x = false := by
    intro y hy
    unfold placeK at hy
    cases hq : lessI (key y) x with
    | false => rfl
    | true =>
      exfalso
      have : ∀ (m : List α), m[(m.takeWhile fun a => lessI (key a) x).length]? = some y → False := by
        intro m
        induction m with
        | nil => intro h; simp at h
        | cons a m ih =>
          intro h
          by_cases ha : lessI (key a) x = true
          · exact ih (by simpa [List.takeWhile_cons, ha] using h)
          · simp [ha] at h
            subst h
            exact ha hq
      exact this l hy
  cases hy : l[placeK key l x]? with
  | none =>
    symm
    rw [decide_eq_false_iff_not]
    intro hm
    obtain ⟨z, hz, hzx⟩ := List.mem_map.1 hm
    obtain ⟨j, hj⟩ := List.mem_iff_getElem?.1 hz
    have hjl := (List.getElem?_eq_some_iff.1 hj).1
    have hpl : l.length ≤ placeK key l x := by
      rcases Nat.lt_or_ge (placeK key l x) l.length with h0 | h0
      · rw [List.getElem?_eq_getElem h0] at hy; cases hy
      · exact h0
    have := hlo j z (by omega) hj
    rw [hzx, lessI_irr] at this
    cases this
  | some y =>
    simp only
    by_cases hk : key y = x
    · rw [decide_eq_true hk]
      symm
      rw [decide_eq_true_eq]
      exact List.mem_map.2 ⟨y, List.mem_of_getElem? hy, hk⟩
    · rw [decide_eq_false hk]
      symm
      rw [decide_eq_false_iff_not]
      intro hm
      obtain ⟨z, hz, hzx⟩ := List.mem_map.1 hm
      obtain ⟨j, hj⟩ := List.mem_iff_getElem?.1 hz
      rcases Nat.lt_trichotomy j (placeK key l x) with h1 | h1 | h1
      · have := hlo j z h1 hj
        rw [hzx, lessI_irr] at this
        cases this
      · subst h1
        rw [hy] at hj
        rw [Option.some.inj hj] at hk
        exact hk hzx
      · have h3 := riseK_lt h h1 hy hj
        have h4 := hhi y hy
        rw [hzx] at h3
        rw [h3] at h4
        cases h4
end Go.Proofs.YtonoadjmglkhaaaGreat.Av

namespace Go.Proofs.YtonoadjmglkhaaaGreat.Av
open Go.RowKit Go.Sort Go.Proofs.YtonoadjmglkhaaaGreat Go.Proofs.YtonoadjmglkhaaaGreat.Rw Go.Proofs.YtonoadjmglkhaaaGreat.Nm Go.Proofs.YtonoadjmglkhaaaGreat.Pr Go.Proofs.YtonoadjmglkhaaaGreat.Bk

abbrev keyJ (x : XID) : XID := x
theorem el_reJ {W W1 : World} {v : Value} {l : List XID} {ao : Option Addr} {n c k : Nat} {x : XID} (h : RowJ W v l) (hv : v = .slice ao n c) (hn : l.length = n) (hk : l[k]? = some x) (hb : Below W.heap.size W W1) :
    ∃ p : Addr, (∀ w, (Instr.indexAt 25 (.slice ao n c) (.int .i64 k)).run Tryz.prog w = .ok (.pointer (some p)) w) ∧
      (∀ d os, (grow (redrawn W1 d) os).cell? p = some (.int .i64 x.1)) ∧ (∀ d os, (grow (redrawn W1 d) os).cell? ⟨p.block, p.off + 1, none⟩ = some (.int .i64 x.2)) := by
  obtain ⟨p, h1, h2⟩ := elJ h hv hn hk
  obtain ⟨c0, c1⟩ := h2 _ hb
  exact ⟨p, h1, cell_regrown c0, cell_regrown c1⟩
theorem box_reJ {W : World} {b : Nat} {c : XID} (h : Box W b #[.int .i64 c.1, .int .i64 c.2] 37) : (∀ d os, (grow (redrawn W d) os).cell? ⟨b, 0, none⟩ = some (.int .i64 c.1)) ∧ (∀ d os, (grow (redrawn W d) os).cell? ⟨b, 1, none⟩ = some (.int .i64 c.2)) :=
  ⟨cell_regrown (h.cell 0), cell_regrown (h.cell 1)⟩
theorem call_ordJ (args : Array Value) (w : World) : (callFunc 34 args).run Tryz.prog w = .ok (.enter 34 args) w := call_fn Tryz.func34 rfl rfl args w
theorem ord_reJ (c d : XID) (r : Int) (hr : cmpJ c d = r) (w : World) (k : Nat) (os : Array Obj) :
    Calls Tryz.prog 34 #[idv c, idv d] (grow (redrawn w k) os) fun e w'' => e = .returned (.int .i64 r) ∧ ∃ p : Regrown, w'' = grow (redrawn w p.d) p.os := by
  subst hr
  exact Calls.regrown_of (byID_any c d _)

set_option maxRecDepth 100000 in
set_option maxHeartbeats 8000000 in
theorem bsJ_any (v : Value) (l : List XID) (c : XID) (w : World) (hv : RowJ w v l) (hr : RiseK keyJ l) (hl : l.length ≤ 900) :
    Calls Tryz.prog 86 #[v, idv c, .func (.func 34) #[] #[]] w fun e w' => e = .returned (.tuple #[.int .i64 (placeK keyJ l c), .bool (thereK keyJ l c)]) ∧ Below w.heap.size w w' := by
  have HL := Lib.hid hv
  have HR := Lib.hid hr
  have BX := Lib.hid (box_new w #[.int .i64 c.1, .int .i64 c.2] 37)
  have B1 := Lib.hid ((Below.refl w.heap.size w).alloc (Nat.le_refl _) (.cells #[.int .i64 c.1, .int .i64 c.2] 37))
  obtain ⟨ao, ac, rfl⟩ := hv.len
  obtain ⟨n, hn⟩ : ∃ n, n = l.length := ⟨_, rfl⟩
  rw [← hn] at HL hl ⊢
  have HN := Lib.hid hn
  obtain ⟨cnt, hc⟩ : ∃ k, k = placeK keyJ l c := ⟨_, rfl⟩
  obtain ⟨th, ht⟩ : ∃ k, k = thereK keyJ l c := ⟨_, rfl⟩
  rw [← hc, ← ht]
  have HC := Lib.hid hc
  have HT := Lib.hid ht
  clear hv hr hn hc ht
  obtain ⟨c1, c2⟩ := c
  go_enter Tryz.func86, Tryz.ntmps86
  go_wp2
  generalize w.alloc (.cells #[.int .i64 c1, .int .i64 c2] 37) = w1 at *
  go_loopg [9, 10] n (fun kx s9 s10 wr => ∃ lo hi : Nat, s9 = .int .i64 lo ∧ s10 = .int .i64 hi ∧ lo ≤ hi ∧ hi ≤ n ∧ hi - lo ≤ kx ∧ Below w.heap.size w wr ∧ Box wr w.heap.size #[.int .i64 c1, .int .i64 c2] 37 ∧
    (∀ (t : Nat) (y : XID), t < lo → l[t]? = some y → lessI y (c1, c2) = true) ∧ (∀ (t : Nat) (y : XID), hi ≤ t → l[t]? = some y → lessI y (c1, c2) = false))
  case atStart => exact ⟨0, n, rfl, rfl, Nat.zero_le _, Nat.le_refl _, by omega, B1.out, BX.out, fun t y h => by omega, fun t y h1 h2 => by have := (List.getElem?_eq_some_iff.1 h2).1; have := HN.out; omega⟩
  case round =>
    clear B1 BX
    obtain ⟨lo, hi, rfl, rfl, hlh, hin, hg, hb, hx, ha, hz⟩ := hrel
    have B := Lib.hid hb
    have X := Lib.hid hx
    have AL := Lib.hid ha
    have ZL := Lib.hid hz
    clear hb hx ha hz
    by_cases hlt : lo < hi
    · obtain ⟨y, hy⟩ : ∃ y, l[(lo + hi) / 2]? = some y := ⟨_, List.getElem?_eq_getElem (by have := HN.out; omega)⟩
      obtain ⟨p, ix, p0, p1⟩ := el_reJ HL.out rfl HN.out.symm hy B.out
      obtain ⟨b0, b1⟩ := box_reJ (c := (c1, c2)) X.out
      obtain ⟨r, hr⟩ : ∃ r, cmpJ y (c1, c2) = r := ⟨_, rfl⟩
      have C := ord_reJ y (c1, c2) r hr wr
      have LE := Lib.hid (show decide (r < 0) = lessI y (c1, c2) by rw [← hr]; exact cmpJ_less _ _)
      have Y := Lib.hid hy
      clear hy hr
      have e23 : ((lo : Int) + (hi : Int)) / 2 = (((lo + hi) / 2 : Nat) : Int) := by omega
      generalize hm : (lo + hi) / 2 = m at *
      have BN := Lib.hid (fun dq osq => B.out.trans ((below_regrown wr dq osq).mono B.out.size))
      have XN := Lib.hid (fun dq osq => X.out.on (below_regrown wr dq osq))
      obtain ⟨y1, y2⟩ := y
      simp only at p0 p1 b0 b1 C
      by_cases hneg : r < 0
      · have d0 : decide (r < 0) = true := by simpa using hneg
        have LT := Lib.hid (show lessI (y1, y2) (c1, c2) = true by rw [← LE.out]; exact d0)
        go_wp2
        refine wp_region_quiet_below (by kernel_rfl) (by kernel_rfl) ?_
        repeat (go_big_quiet_step (first | (with_reducible exact C _ _) | exact call_ordJ _ _))
        refine wpQuiet_nil ?_
        intro _ hw'
        obtain ⟨⟨dq, osq⟩, hw''⟩ := hw'
        subst hw''
        clear ix p0 p1 b0 b1 C
        go_wp2
        go_roundg (hi - (m + 1))
        case measure => omega
        case rel => exact ⟨m + 1, hi, by go_num, rfl, by omega, hin, Nat.le_refl _, BN.out _ _, XN.out _ _, fun t z h1 h2 => by
          rcases Nat.lt_or_ge t m with h3 | h3
          · exact lessI_trans (riseK_lt HR.out (by omega) h2 Y.out) LT.out
          · obtain rfl : t = m := by omega
            rw [Y.out] at h2
            rw [← Option.some.inj h2]
            exact LT.out, ZL.out⟩
      · have d0 : decide (r < 0) = false := by simpa using hneg
        have LT := Lib.hid (show lessI (y1, y2) (c1, c2) = false by rw [← LE.out]; exact d0)
        go_wp2
        refine wp_region_quiet_below (by kernel_rfl) (by kernel_rfl) ?_
        repeat (go_big_quiet_step (first | (with_reducible exact C _ _) | exact call_ordJ _ _))
        refine wpQuiet_nil ?_
        intro _ hw'
        obtain ⟨⟨dq, osq⟩, hw''⟩ := hw'
        subst hw''
        clear ix p0 p1 b0 b1 C
        go_wp2
        go_roundg (m - lo)
        case measure => omega
        case rel => exact ⟨lo, m, rfl, rfl, by omega, by omega, Nat.le_refl _, BN.out _ _, XN.out _ _, AL.out, fun t z h1 h2 => by
          cases h : lessI z (c1, c2)
          · rfl
          · rcases Nat.lt_or_ge m t with h3 | h3
            · have := lessI_trans (riseK_lt HR.out h3 Y.out h2) h
              rw [LT.out] at this
              cases this
            · obtain rfl : t = m := by omega
              rw [Y.out] at h2
              rw [← Option.some.inj h2, LT.out] at h
              cases h⟩
    · obtain rfl : hi = lo := by omega
      have E := Lib.hid (placeK_is keyJ l (c1, c2) hi AL.out (by
        rcases Nat.lt_or_ge hi n with h | h
        · exact Or.inr ⟨_, List.getElem?_eq_getElem (by have := HN.out; omega), ZL.out hi _ (Nat.le_refl _) (List.getElem?_eq_getElem (by have := HN.out; omega))⟩
        · exact Or.inl (by have := HN.out; omega)))
      by_cases hn : hi < n
      · obtain ⟨y, hy⟩ : ∃ y, l[hi]? = some y := ⟨_, List.getElem?_eq_getElem (by have := HN.out; omega)⟩
        obtain ⟨p, ix, p0, p1⟩ := el_reJ HL.out rfl HN.out.symm hy B.out
        obtain ⟨b0, b1⟩ := box_reJ (c := (c1, c2)) X.out
        obtain ⟨r, hr⟩ : ∃ r, cmpJ y (c1, c2) = r := ⟨_, rfl⟩
        have C := ord_reJ y (c1, c2) r hr wr
        have TH := Lib.hid (show th = (r == 0) by
          rw [HT.out, thereK, E.out, hy, Bool.eq_iff_iff, beq_iff_eq, ← hr, cmpJ_zero, decide_eq_true_eq])
        have BN := Lib.hid (fun dq osq => B.out.trans ((below_regrown wr dq osq).mono B.out.size))
        have CE := Lib.hid (show cnt = hi by rw [HC.out, E.out])
        clear hy hr hlt
        have g4 : decide ((hi : Int) < (n : Int)) = true := by simp; omega
        obtain ⟨y1, y2⟩ := y
        simp only at p0 p1 b0 b1 C
        go_wp2
        refine wp_region_quiet_below (by kernel_rfl) (by kernel_rfl) ?_
        repeat (go_big_quiet_step (first | (with_reducible exact C _ _) | exact call_ordJ _ _))
        refine wpQuiet_nil ?_
        intro _ hw'
        obtain ⟨⟨dq, osq⟩, hw''⟩ := hw'
        subst hw''
        clear ix p0 p1 b0 b1 C
        go_wp2
        go_ret2
        exact ⟨by rw [TH.out, CE.out]; rfl, BN.out _ _⟩
      · have TH := Lib.hid (show th = false by
          rw [HT.out, thereK, E.out, List.getElem?_eq_none (by have := HN.out; omega)])
        have CE := Lib.hid (show cnt = hi by rw [HC.out, E.out])
        have BN := Lib.hid (fun dq osq => B.out.trans ((below_regrown wr dq osq).mono B.out.size))
        have g4 : decide ((hi : Int) < (n : Int)) = false := by simp; omega
        clear hlt
        go_wp2
        refine wp_region_quiet_below (by kernel_rfl) (by kernel_rfl) ?_
        repeat (go_big_quiet_step (fail))
        refine wpQuiet_nil ?_
        intro _ hw'
        obtain ⟨⟨dq, osq⟩, hw''⟩ := hw'
        subst hw''
        go_wp2
        go_ret2
        exact ⟨by rw [TH.out, CE.out]; rfl, BN.out _ _⟩
end Go.Proofs.YtonoadjmglkhaaaGreat.Av
