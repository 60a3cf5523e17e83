/-
  Learn of broadsideref9: a broker with one advertisement more, if it was not seen. Condition: at most 900 of each.
  The region of Forget that takes an advertisement out. Condition: at most 900 of them.
  Forget of broadsideref9: a broker without one advertisement and its entries, if it came from there. Condition: at most 900 of each.
-/
import Derived.Test.YtonoadjmglkhaaaGreatV009
import Derived.Test.YtonoadjmglkhaaaGreatV008
import Derived.Test.YtonoadjmglkhaaaGreatV005
namespace Go.Proofs.YtonoadjmglkhaaaGreat.Bk
open Go.RowKit Go.Sort Go.Proofs.YtonoadjmglkhaaaGreat Go.Proofs.YtonoadjmglkhaaaGreat.Rw Go.Proofs.YtonoadjmglkhaaaGreat.Nm Go.Proofs.YtonoadjmglkhaaaGreat.Pr

def insAt {α : Type} (l : List α) (k : Nat) (x : α) : List α := l.take k ++ [x] ++ l.drop k
def learnB (b : Br) (a : Ad) : Br × Bool := if a.id ∈ b.seen then (b, false) else ({ b with seen := insAt b.seen (placeI b.seen a.id) a.id, adv := insAt b.adv (placeI (b.adv.map Ad.id) a.id) a }, true)
abbrev setB (W : World) (b : Nat) (a0 a1 a2 a3 a4 a5 : Value) : World := (((((W.setCell ⟨b, 0, none⟩ a0).setCell ⟨b, 1, none⟩ a1).setCell ⟨b, 2, none⟩ a2).setCell ⟨b, 3, none⟩ a3).setCell ⟨b, 4, none⟩ a4).setCell ⟨b, 5, none⟩ a5
theorem setB_box {W : World} {b : Nat} {t : TypeId} {z0 z1 z2 z3 z4 z5 : Value} (h : Box W b #[z0, z1, z2, z3, z4, z5] t) (a0 a1 a2 a3 a4 a5 : Value) : Box (setB W b a0 a1 a2 a3 a4 a5) b #[a0, a1, a2, a3, a4, a5] t := by
  have h2 := box_set (k := 5) (box_set (k := 4) (box_set (k := 3) (box_set (k := 2) (box_set (k := 1) (box_set (k := 0) h a0) a1) a2) a3) a4) a5
  simp only [List.setIfInBounds_toArray, List.set_cons_zero, List.set_cons_succ] at h2
  exact h2
theorem setB_below {w W : World} {B b : Nat} (h : Below B w W) (hb : B ≤ b) (a0 a1 a2 a3 a4 a5 : Value) : Below B w (setB W b a0 a1 a2 a3 a4 a5) :=
  (((((h.setCell hb _).setCell hb _).setCell hb _).setCell hb _).setCell hb _).setCell hb _
theorem setB_heap (W : World) (b : Nat) (a0 a1 a2 a3 a4 a5 : Value) (j : Nat) (hj : j ≠ b) : (setB W b a0 a1 a2 a3 a4 a5).heap[j]? = W.heap[j]? := by
  have h : ∀ (W : World) (k : Nat) (x : Value), (W.setCell ⟨b, k, none⟩ x).heap[j]? = W.heap[j]? := fun W k x => RowKit.Below.heap_setCell W _ x _ hj
  unfold setB
  rw [h, h, h, h, h, h]
theorem setB_ownA {α : Type} {E : Ek α} {W : World} {B : Nat} {v : Value} {l : List α} (h : Own E W B v l) (b : Nat) (hb : b < B) (a0 a1 a2 a3 a4 a5 : Value) : Own E (setB W b a0 a1 a2 a3 a4 a5) B v l :=
  own_cell (own_cell (own_cell (own_cell (own_cell (own_cell h b 0 a0 hb) b 1 a1 hb) b 2 a2 hb) b 3 a3 hb) b 4 a4 hb) b 5 a5 hb
theorem three_new (w : World) (c d e : Array Value) (r s t : TypeId) : Below w.heap.size w (((w.alloc (.cells c r)).alloc (.cells d s)).alloc (.cells e t)) ∧ Box (((w.alloc (.cells c r)).alloc (.cells d s)).alloc (.cells e t)) w.heap.size c r ∧ Box (((w.alloc (.cells c r)).alloc (.cells d s)).alloc (.cells e t)) (w.heap.size + 1) d s ∧ Box (((w.alloc (.cells c r)).alloc (.cells d s)).alloc (.cells e t)) (w.heap.size + 1 + 1) e t := by
  refine ⟨(((Below.refl _ _).alloc (Nat.le_refl _) _).alloc (by simp) _).alloc (by simp; omega) _, ((box_new w c r).more _).more _, ?_, ?_⟩
  · have h := (box_new (w.alloc (.cells c r)) d s).more (.cells e t)
    simpa using h
  · have h := box_new ((w.alloc (.cells c r)).alloc (.cells d s)) e t
    simpa using h
theorem box_twoJ {W : World} {b : Nat} {c d : Int} {p q : Value} (h : Box W b #[.int .i64 c, .int .i64 d, p, q] 42) : ∀ x, Below W.heap.size W x → ∀ j u, (cellsJ (c, d))[j]? = some u → x.cell? ((⟨b, 0, none⟩ : Addr).add j) = some u := by
  intro x hb j u hj
  rw [add_own, (h.on hb).cell]
  match j with
  | 0 => exact hj
  | 1 => exact hj
  | j + 2 => simp at hj
theorem box_fourD {W : World} {b : Nat} {c d q : Int} {p : Sl} (h : Box W b #[.int .i64 c, .int .i64 d, slv p, .int .i64 q] 42) : ∀ x, Below W.heap.size W x → ∀ j u, (cellsD (c, d, p, q))[j]? = some u → x.cell? ((⟨b, 0, none⟩ : Addr).add j) = some u := by
  intro x hb j u hj
  rw [add_own, (h.on hb).cell]
  match j with
  | 0 => exact hj
  | 1 => exact hj
  | 2 => exact hj
  | 3 => exact hj
  | j + 4 => simp at hj
theorem ids_eq {W : World} {l : List XAd} {m : List Ad} (h : All2 (AdIn W) l m) : (l.map fun y => (y.1, y.2.1)) = m.map Ad.id := by
  induction h with
  | nil => rfl
  | cons x t ih => rw [List.map_cons, List.map_cons, ih, x.1]
theorem place_le (l : List Id) (x : Id) : placeI l x ≤ l.length := by
  unfold placeI
  exact (List.takeWhile_sublist _).length_le
theorem own_high {α : Type} {E : Ek α} {W : World} {B : Nat} {v : Value} {l : List α} {b : Nat} (h : Own E W B v l) (hb : b < B) : v.ownBlock = none ∨ v.ownBlock ≠ some b := by
  cases hv : v.ownBlock with
  | none => exact Or.inl rfl
  | some j =>
    refine Or.inr fun e => ?_
    injection e with e
    have := (h.lt j hv).1
    omega
set_option maxRecDepth 100000 in
set_option maxHeartbeats 16000000 in
theorem rlearn_any (b : Br) (nv av sv ev ov : Sl) (z : XAd) (a : Ad) (w : World) (h : BrIn w b nv av sv ev ov) (hz : AdIn w z a) (l1 : b.seen.length ≤ 900) (l2 : b.adv.length ≤ 900) :
    Calls Tryz.prog 11 #[brv b.me nv av sv ev ov, valD z] w fun e w' => (∃ av' sv' : Sl, e = .returned (.tuple #[brv b.me nv av' sv' ev ov, .bool (learnB b a).2]) ∧ BrIn w' (learnB b a).1 nv av' sv' ev ov) ∧ Below w.heap.size w w' := by
  obtain ⟨no, nn, nc⟩ := nv
  obtain ⟨ao, an, ac⟩ := av
  obtain ⟨so, sn, sc⟩ := sv
  obtain ⟨eo, en, ec⟩ := ev
  obtain ⟨oo, on_, oc⟩ := ov
  obtain ⟨c, d, ⟨po, pn, pc⟩, par⟩ := z
  obtain ⟨xs, hx1, hx2⟩ := h.adv
  have HZ := Lib.hid hz
  have IDS := Lib.hid (ids_eq hx2)
  have XL := Lib.hid (show xs.length ≤ 900 by rw [hx2.len]; exact l2)
  have hs := h.seen
  have HA2 := Lib.hid hx2
  obtain ⟨q1, q2, hq⟩ := hs.len
  obtain ⟨rfl, rfl, rfl⟩ : so = q1 ∧ sn = b.seen.length ∧ sc = q2 := by
    have : Value.slice so sn sc = .slice q1 b.seen.length q2 := hq
    simpa using this
  obtain ⟨q1, q2, hq⟩ := hx1.len
  obtain ⟨rfl, rfl, rfl⟩ : ao = q1 ∧ an = xs.length ∧ ac = q2 := by
    have : Value.slice ao an ac = .slice q1 xs.length q2 := hq
    simpa using this
  have SN := rseen_any b.me (.slice no nn nc) (.slice ao xs.length ac) (.slice eo en ec) (.slice oo on_ oc) (so, b.seen.length, sc) b.seen (c, d)
  have HH := Lib.hid h
  obtain ⟨h0, h1, h2, h3⟩ := three_new w #[.int .i64 b.me, .slice no nn nc, .slice ao xs.length ac, .slice so b.seen.length sc, .slice eo en ec, .slice oo on_ oc] #[.int .i64 c, .int .i64 d, .slice po pn pc, .int .i64 par] #[.int .i64 0, .slice none 0 0, .slice none 0 0, .slice none 0 0, .slice none 0 0, .slice none 0 0] 29 42 29
  obtain ⟨n1, hn1⟩ : ∃ n, n = b.seen.length := ⟨_, rfl⟩
  obtain ⟨n2, hn2⟩ : ∃ n, n = xs.length := ⟨_, rfl⟩
  have HD := hx1
  simp only [← hn1, ← hn2] at h0 h1 h2 h3 hs HD HH SN ⊢
  have B0 := Lib.hid h0
  have X2 := Lib.hid h1
  have X3 := Lib.hid h2
  have X4 := Lib.hid h3
  have HS := Lib.hid hs
  have HD := Lib.hid HD
  have N1 := Lib.hid hn1
  have N2 := Lib.hid hn2
  have L1 := Lib.hid l1
  have AI := Lib.hid hz.1
  have hme : ∃ me, me = b.me := ⟨_, rfl⟩
  obtain ⟨me, hme⟩ := hme
  simp only [← hme] at X2 B0 X3 X4 SN ⊢
  clear h0 h1 h2 h3 hs hx1 hx2 h hz hq hn1 hn2 l1 l2 hme
  go_enter Tryz.func11, Tryz.ntmps11
  go_upto_region 1 with fail
  generalize (((w.alloc (.cells #[.int .i64 me, .slice no nn nc, .slice ao n2 ac, .slice so n1 sc, .slice eo en ec, .slice oo on_ oc] 29)).alloc (.cells #[.int .i64 c, .int .i64 d, .slice po pn pc, .int .i64 par] 42)).alloc (.cells #[.int .i64 0, .slice none 0 0, .slice none 0 0, .slice none 0 0, .slice none 0 0, .slice none 0 0] 29)) = W at *
  have SW := Lib.hid (SN W (HS.out.on B0.out))
  clear SN
  have x0 := X2.out.cell 0
  have x1 := X2.out.cell 1
  have x2 := X2.out.cell 2
  have x3 := X2.out.cell 3
  have x4 := X2.out.cell 4
  have x5 := X2.out.cell 5
  have y0 := X3.out.cell 0
  have y1 := X3.out.cell 1
  have y2 := X3.out.cell 2
  have y3 := X3.out.cell 3
  simp only [List.getElem?_toArray, List.getElem?_cons_zero, List.getElem?_cons_succ] at x0 x1 x2 x3 x4 x5 y0 y1 y2 y3
  cases hsn : decide ((c, d) ∈ b.seen) with
  | true =>
    have LB := Lib.hid (show learnB b a = (b, false) from if_pos (by rw [← AI.out]; exact of_decide_eq_true hsn))
    rw [hsn] at SW
    clear hsn
    go_wp2_with fail
    refine SW.out.mono ?_
    rintro e1 w1 ⟨rfl, hb⟩
    have B1 := Lib.hid (B0.out.trans (hb.mono B0.out.size))
    have X2a := X2.out.on hb
    have X4a := X4.out.on hb
    clear SW x0 x1 x2 x3 x4 x5 y0 y1 y2 y3
    have x0 := X2a.cell 0
    have x1 := X2a.cell 1
    have x2 := X2a.cell 2
    have x3 := X2a.cell 3
    have x4 := X2a.cell 4
    have x5 := X2a.cell 5
    have r0 := X4a.cell 0
    have r1 := X4a.cell 1
    have r2 := X4a.cell 2
    have r3 := X4a.cell 3
    have r4 := X4a.cell 4
    have r5 := X4a.cell 5
    have t0 := X4a.fr 0
    have t1 := X4a.fr 1
    have t2 := X4a.fr 2
    have t3 := X4a.fr 3
    have t4 := X4a.fr 4
    have t5 := X4a.fr 5
    simp only [List.getElem?_toArray, List.getElem?_cons_zero, List.getElem?_cons_succ] at x0 x1 x2 x3 x4 x5 r0 r1 r2 r3 r4 r5
    have zz := X4a.lt
    have FB := Lib.hid (setB_box X4a (.int .i64 me) (.slice no nn nc) (.slice ao n2 ac) (.slice so n1 sc) (.slice eo en ec) (.slice oo on_ oc))
    have BL := Lib.hid (setB_below (b := w.heap.size + 1 + 1) B1.out (by omega) (.int .i64 me) (.slice no nn nc) (.slice ao n2 ac) (.slice so n1 sc) (.slice eo en ec) (.slice oo on_ oc))
    clear hb X2 X3 X4 X2a X4a HS HD
    go_wp2_with fail
    have v0 := FB.out.cell 0
    have v1 := FB.out.cell 1
    have v2 := FB.out.cell 2
    have v3 := FB.out.cell 3
    have v4 := FB.out.cell 4
    have v5 := FB.out.cell 5
    simp at v0 v1 v2 v3 v4 v5
    refine bodyPost_ret (v := .tuple #[.agg #[.int .i64 me, .slice no nn nc, .slice ao n2 ac, .slice so n1 sc, .slice eo en ec, .slice oo on_ oc], .bool false]) (by simp [results, Tryz.results11, go_sem, v0, v1, v2, v3, v4, v5]) rfl ?_
    rw [LB.out]
    exact ⟨⟨(ao, n2, ac), (so, n1, sc), rfl, HH.out.on BL.out⟩, BL.out⟩
  | false =>
    have LB := Lib.hid (show learnB b a = ({ b with seen := insAt b.seen (placeI b.seen a.id) a.id, adv := insAt b.adv (placeI (b.adv.map Ad.id) a.id) a }, true) from if_neg (by rw [← AI.out]; exact of_decide_eq_false hsn))
    rw [hsn] at SW
    clear hsn
    go_wp2_with fail
    refine SW.out.mono ?_
    rintro e1 w1 ⟨rfl, hb⟩
    have B1 := Lib.hid (B0.out.trans (hb.mono B0.out.size))
    have Y2 := Lib.hid (X2.out.on hb)
    have Y3 := Lib.hid (X3.out.on hb)
    have Y4 := Lib.hid (X4.out.on hb)
    have S1 := Lib.hid (HS.out.on B1.out)
    clear SW hb X2 X3 X4 HS x0 x1 x2 x3 x4 x5 y0 y1 y2 y3
    go_upto_block 0 with (fail)
    refine learn_b0 _ w1 w.heap.size (w.heap.size + 1) me c d _ _ _ _ _ _ so n1 sc b.seen _ _ _ _ _ _ _ _ _ _ _ _ _ _ _ _ _ _ _ _ _ _ _ _ _ _ _ _ _ _ _ _ _ _ _ _ _ _ _ _ _ _ _ _ _ _ _ _ _ _ _ _ _ _ _ _ _ _ _ _ _ _ _ _ _ _ _ _ _ _ _ _ _ _ _ _ Y2.out Y3.out S1.out N1.out (by have := L1.out; have := N1.out; omega) ?_
    intro wr v12 v13 v14 v15 v16 v17 v18 v19 v20 v21 v22 v23 v24 v25 v26 v27 v28 hb
    have B2 := Lib.hid (B1.out.trans (hb.mono B1.out.size))
    have Z2 := Lib.hid (Y2.out.on hb)
    have Z3 := Lib.hid (Y3.out.on hb)
    have Z4 := Lib.hid (Y4.out.on hb)
    have S2 := Lib.hid (S1.out.on hb)
    clear hb B1 Y2 Y3 Y4 S1
    go_upto_region 6 with fail
    refine ins6 _ wr w.heap.size (w.heap.size + 1) me _ _ _ _ so n1 sc (placeI b.seen (c, d)) b.seen (c, d) _ _ _ _ _ _ _ _ _ _ _ _ _ _ _ _ _ _ _ _ _ _ _ _ _ _ _ _ _ _ _ _ _ _ _ _ _ _ _ _ _ _ _ _ _ _ _ _ _ _ _ _ _ _ _ _ _ _ _ _ _ _ _ _ _ _ _ _ _ _ _ _ _ _ _ _ Z2.out (box_twoJ Z3.out) S2.out (place_le _ _) L1.out ?_
    intro xw1 v29 v30 v31 v32 v33 v34 v35 v36 v37 v38 v39 v40 v41 v42 v43 v44 hbx ho hbl hoth hblk
    obtain ⟨sd1, sd2, hsv⟩ := (Row.of_own ho).len
    obtain ⟨sl, hsl⟩ : ∃ n, n = (b.seen.take (placeI b.seen (c, d)) ++ [(c, d)] ++ b.seen.drop (placeI b.seen (c, d))).length := ⟨_, rfl⟩
    rw [← hsl] at hsv
    subst hsv
    have B3 := Lib.hid (B2.out.trans (hbl _ (Nat.le_refl _)))
    have A2 := Lib.hid hbx
    have A3 := Lib.hid (hoth _ _ _ (by omega) Z3.out)
    have A4 := Lib.hid (hoth _ _ _ (by omega) Z4.out)
    have OS := Lib.hid (own_fewer ho (show w.heap.size + 3 ≤ wr.heap.size by have := Z4.out.lt; omega))
    have D3 := Lib.hid (HD.out.on B3.out)
    clear hbx ho hbl hoth hblk hsl B2 Z2 Z3 Z4 S2 HD
    go_upto_block 2 with (fail)
    refine learn_b2 _ xw1 w.heap.size (w.heap.size + 1) me c d _ _ _ _ _ _ ao n2 ac xs _ _ _ _ _ _ _ _ _ _ _ _ _ _ _ _ _ _ _ _ _ _ _ _ _ _ _ _ _ _ _ _ _ _ _ _ _ _ _ _ _ _ _ _ _ _ _ _ _ _ _ _ _ _ _ _ _ _ _ _ _ _ _ _ _ _ _ _ _ _ _ _ _ _ _ _ A2.out A3.out D3.out N2.out (by have := XL.out; have := N2.out; omega) ?_
    intro ws v45 v46 v47 v48 v49 v50 v51 v52 v53 v54 v55 v56 v57 v58 v59 v60 v61 v62 hb
    have B4 := Lib.hid (B3.out.trans (hb.mono B3.out.size))
    have C2 := Lib.hid (A2.out.on hb)
    have C3 := Lib.hid (A3.out.on hb)
    have C4 := Lib.hid (A4.out.on hb)
    have O4 := Lib.hid (own_on OS.out hb)
    have D4 := Lib.hid (D3.out.on hb)
    clear hb B3 A2 A3 A4 OS D3
    go_upto_region 10 with fail
    refine ins10 _ ws w.heap.size (w.heap.size + 1) me _ _ _ _ ao n2 ac (placeI (xs.map fun y => (y.1, y.2.1)) (c, d)) xs (c, d, (po, pn, pc), par) _ _ _ _ _ _ _ _ _ _ _ _ _ _ _ _ _ _ _ _ _ _ _ _ _ _ _ _ _ _ _ _ _ _ _ _ _ _ _ _ _ _ _ _ _ _ _ _ _ _ _ _ _ _ _ _ _ _ _ _ _ _ _ _ _ _ _ _ _ _ _ _ _ _ _ _ C2.out (box_fourD (p := (po, pn, pc)) C3.out) D4.out (by have := place_le (xs.map fun y => (y.1, y.2.1)) (c, d); rw [List.length_map] at this; exact this) XL.out ?_
    intro xw2 v63 v64 v65 v66 v67 v68 v69 v70 v71 v72 v73 v74 v75 v76 v77 hbx ho hbl hoth hblk
    obtain ⟨td1, td2, htv⟩ := (Row.of_own ho).len
    obtain ⟨tl, htl⟩ : ∃ n, n = (xs.take (placeI (xs.map fun y => (y.1, y.2.1)) (c, d)) ++ [(c, d, (po, pn, pc), par)] ++ xs.drop (placeI (xs.map fun y => (y.1, y.2.1)) (c, d))).length := ⟨_, rfl⟩
    rw [← htl] at htv
    subst htv
    have hb5 := hbl _ (Nat.le_refl w.heap.size)
    have B5 := Lib.hid (B4.out.trans hb5)
    have E2 := hbx
    have E4 := hoth _ _ _ (by omega) C4.out
    have OD := Lib.hid (own_fewer ho (show w.heap.size + 3 ≤ ws.heap.size by have := C4.out.lt; omega))
    have OS := Lib.hid (O4.out.kept (w' := xw2) (row := some w.heap.size) ⟨hb5.os, hb5.tape, hb5.output, hb5.size, fun k hk hne => hblk k hk (fun e => hne (by rw [e]))⟩ (own_high O4.out (by omega)))
    clear ho hbl hoth hblk htl hb5 hbx B4 C2 C3 C4 O4 D4
    have x0 := E2.cell 0
    have x1 := E2.cell 1
    have x2 := E2.cell 2
    have x3 := E2.cell 3
    have x4 := E2.cell 4
    have x5 := E2.cell 5
    have r0 := E4.cell 0
    have r1 := E4.cell 1
    have r2 := E4.cell 2
    have r3 := E4.cell 3
    have r4 := E4.cell 4
    have r5 := E4.cell 5
    have t0 := E4.fr 0
    have t1 := E4.fr 1
    have t2 := E4.fr 2
    have t3 := E4.fr 3
    have t4 := E4.fr 4
    have t5 := E4.fr 5
    simp only [List.getElem?_toArray, List.getElem?_cons_zero, List.getElem?_cons_succ] at x0 x1 x2 x3 x4 x5 r0 r1 r2 r3 r4 r5
    have zz := E4.lt
    have FB := Lib.hid (setB_box E4 (.int .i64 me) (.slice no nn nc) (.slice td1 tl td2) (.slice sd1 sl sd2) (.slice eo en ec) (.slice oo on_ oc))
    have BL := Lib.hid (setB_below (b := w.heap.size + 1 + 1) B5.out (by omega) (.int .i64 me) (.slice no nn nc) (.slice td1 tl td2) (.slice sd1 sl sd2) (.slice eo en ec) (.slice oo on_ oc))
    have FD := Lib.hid (setB_ownA OD.out (w.heap.size + 1 + 1) (by omega) (.int .i64 me) (.slice no nn nc) (.slice td1 tl td2) (.slice sd1 sl sd2) (.slice eo en ec) (.slice oo on_ oc))
    have FS := Lib.hid (setB_ownA OS.out (w.heap.size + 1 + 1) (by omega) (.int .i64 me) (.slice no nn nc) (.slice td1 tl td2) (.slice sd1 sl sd2) (.slice eo en ec) (.slice oo on_ oc))
    clear OD OS E2 E4
    go_wp2_with fail
    have v0 := FB.out.cell 0
    have v1 := FB.out.cell 1
    have v2 := FB.out.cell 2
    have v3 := FB.out.cell 3
    have v4 := FB.out.cell 4
    have v5 := FB.out.cell 5
    simp at v0 v1 v2 v3 v4 v5
    refine bodyPost_ret (v := .tuple #[.agg #[.int .i64 me, .slice no nn nc, .slice td1 tl td2, .slice sd1 sl sd2, .slice eo en ec, .slice oo on_ oc], .bool true]) (by simp [results, Tryz.results11, go_sem, v0, v1, v2, v3, v4, v5]) rfl ?_
    rw [LB.out]
    refine ⟨⟨(td1, tl, td2), (sd1, sl, sd2), rfl, ?_⟩, BL.out⟩
    have hI := HH.out.on BL.out
    refine ⟨hI.near, ⟨_, Row.of_own FD.out, ?_⟩, ?_, hI.ent, hI.own⟩
    · have hA := HA2.out.mono fun _ _ h => h.on BL.out
      rw [← AI.out, ← IDS.out]
      exact ((hA.take _).append (.cons (HZ.out.on BL.out) .nil)).append (hA.drop _)
    · rw [← AI.out]
      exact Row.of_own FS.out
end Go.Proofs.YtonoadjmglkhaaaGreat.Bk

namespace Go.Proofs.YtonoadjmglkhaaaGreat.Bk
open Go.RowKit Go.Proofs.YtonoadjmglkhaaaGreat Go.Proofs.YtonoadjmglkhaaaGreat.Rw Go.Proofs.YtonoadjmglkhaaaGreat.Nm Go.Proofs.YtonoadjmglkhaaaGreat.Pr

def cut4V (B b2 _b3 : Nat) (so : Option Addr) (sn sc at_ : Nat) (lo hiv : Value) (lt ld : List XAd) (i : Nat) (v : Value) (x : World) : Prop :=
  match i with
  | 0 => ∃ g, v = .slice (some ⟨g, 0, none⟩) 0 0 ∧ B ≤ g ∧ Box x g #[] 42
  | 1 => v = .pointer (some ⟨b2, 2, none⟩)
  | 2 => v = .slice so sn sc
  | 3 => v = .int .i64 (at_ : Int)
  | 4 => v = lo
  | 5 => OwnD x B v lt
  | 6 => v = .pointer (some ⟨b2, 2, none⟩)
  | 7 => v = .slice so sn sc
  | 8 => v = .int .i64 (at_ : Int)
  | 9 => v = .int .i64 ((at_ : Int) + 1)
  | 10 => v = hiv
  | 11 => OwnD x B v (lt ++ ld)
  | 12 => v = .pointer (some ⟨b2, 2, none⟩)
  | _ => True
noncomputable def cutR4 : Code := ((Tryz.f13.body.bind (findRegion 4)).getD .skip)
theorem cut4V_on (B b2 b3 : Nat) (so : Option Addr) (sn sc at_ : Nat) (lo hiv : Value) (lt ld : List XAd) (i : Nat) (v : Value) (x x' : World) (h : cut4V B b2 b3 so sn sc at_ lo hiv lt ld i v x) (hb : Below x.heap.size x x') : cut4V B b2 b3 so sn sc at_ lo hiv lt ld i v x' := by
  by_cases hi : i < 13
  · rcases (by omega : i = 0 ∨ i = 1 ∨ i = 2 ∨ i = 3 ∨ i = 4 ∨ i = 5 ∨ i = 6 ∨ i = 7 ∨ i = 8 ∨ i = 9 ∨ i = 10 ∨ i = 11 ∨ i = 12) with rfl | rfl | rfl | rfl | rfl | rfl | rfl | rfl | rfl | rfl | rfl | rfl | rfl
    · obtain ⟨g, h1, h2, h3⟩ := h
      exact ⟨g, h1, h2, h3.on hb⟩
    · exact h
    · exact h
    · exact h
    · exact h
    · exact own_on h hb
    · exact h
    · exact h
    · exact h
    · exact h
    · exact h
    · exact own_on h hb
    · exact h
  · unfold cut4V
    split <;> first | omega | trivial
set_option maxRecDepth 100000 in
set_option maxHeartbeats 8000000 in
theorem cut4 (Q : Exit → Act → World → Prop) (W : World) (b2 b3 : Nat) (me : Int) (y1 y3 y4 y5 : Value) (so : Option Addr) (sn sc at_ : Nat) (l : List XAd) (u0 u1 u2 u5 u6 u7 u9 u10 u11 u12 u13 u14 u15 u16 u17 u18 u19 u20 u21 u22 u23 u24 u25 u26 u27 u28 u29 u30 u31 u32 u33 u34 u35 u36 u37 u38 u39 u40 u41 u42 u43 u44 u45 u46 u47 u48 u49 u50 u51 u52 u53 u54 u55 u56 u57 u58 u59 : Value)
    (h2 : Box W b2 #[.int .i64 me, y1, .slice so sn sc, y3, y4, y5] 29) (hs : RowD W (.slice so sn sc) l) (hat : at_ + 1 ≤ l.length) (hlen : l.length ≤ 900)
    (hQ : ∀ (x : World) (v28 v29 v30 v31 v32 v33 v34 v35 v36 v37 v38 v39 v40 : Value), Box x b2 #[.int .i64 me, y1, v39, y3, y4, y5] 29 → OwnD x W.heap.size v39 (l.take at_ ++ l.drop (at_ + 1)) → (∀ B, B ≤ b2 → Below B W x) → (∀ c cs t, c ≠ b2 → Box W c cs t → Box x c cs t) → (∀ k, k < W.heap.size → k ≠ b2 → x.heap[k]? = W.heap[k]?) → Q .normal ⟨(u0 :: u1 :: u2 :: .pointer (some ⟨b2, 0, none⟩) :: .pointer (some ⟨b3, 0, none⟩) :: u5 :: u6 :: u7 :: .int .i64 (at_ : Int) :: u9 :: u10 :: u11 :: u12 :: u13 :: u14 :: u15 :: u16 :: u17 :: u18 :: u19 :: u20 :: u21 :: u22 :: u23 :: u24 :: u25 :: u26 :: u27 :: v28 :: v29 :: v30 :: v31 :: v32 :: v33 :: v34 :: v35 :: v36 :: v37 :: v38 :: v39 :: v40 :: u41 :: u42 :: u43 :: u44 :: u45 :: u46 :: u47 :: u48 :: u49 :: u50 :: u51 :: u52 :: u53 :: u54 :: u55 :: u56 :: u57 :: u58 :: u59 :: []).toArray, []⟩ x) :
    Code.wp Tryz.prog cutR4 Q ⟨(u0 :: u1 :: u2 :: .pointer (some ⟨b2, 0, none⟩) :: .pointer (some ⟨b3, 0, none⟩) :: u5 :: u6 :: u7 :: .int .i64 (at_ : Int) :: u9 :: u10 :: u11 :: u12 :: u13 :: u14 :: u15 :: u16 :: u17 :: u18 :: u19 :: u20 :: u21 :: u22 :: u23 :: u24 :: u25 :: u26 :: u27 :: u28 :: u29 :: u30 :: u31 :: u32 :: u33 :: u34 :: u35 :: u36 :: u37 :: u38 :: u39 :: u40 :: u41 :: u42 :: u43 :: u44 :: u45 :: u46 :: u47 :: u48 :: u49 :: u50 :: u51 :: u52 :: u53 :: u54 :: u55 :: u56 :: u57 :: u58 :: u59 :: []).toArray, []⟩ W := by
  have HQ := Lib.hid hQ
  have H2 := Lib.hid h2
  have AT1 := Lib.hid (show at_ ≤ 900 by omega)
  obtain ⟨lo, slo, rlo⟩ := row_lo okD hs at_ (by omega)
  obtain ⟨hiv, shi, rhi⟩ := row_hi okD hs (at_ + 1) hat
  have LT := Lib.hid (show (l.take at_).length ≤ 1000 by rw [List.length_take]; omega)
  have LTD := Lib.hid (show (l.take at_).length ≤ 900 by rw [List.length_take]; omega)
  have LD := Lib.hid (show (l.drop (at_ + 1)).length ≤ 1000 by rw [List.length_drop]; omega)
  generalize l.take at_ = lt at *
  generalize l.drop (at_ + 1) = ld at *
  have SL := Lib.hid slo
  have SH := Lib.hid (show ∀ w, (Instr.sliceAt 24 (.slice so sn sc) (some (.int .i64 ((at_ : Int) + 1))) none none).run Tryz.prog w = .ok hiv w from shi)
  have RL := Lib.hid rlo
  have RH := Lib.hid rhi
  clear hQ h2 hs slo shi rlo rhi hat hlen
  have stab := cut4V_on W.heap.size b2 b3 so sn sc at_ lo hiv lt ld
  unfold cutR4
  conv => arg 2; whnf
  have nd : ∀ j, (j < 28 ∨ 41 ≤ j) → ∀ i, i < 13 → (fun i => 28 + i) i ≠ j := by
    intro j hj i hi h
    simp only at h
    omega
  refine Rg.region_live 14 13 (fun i => 28 + i) (fun i => if i = 0 then 5 else if i = 5 then 11 else 13) (cut4V W.heap.size b2 b3 so sn sc at_ lo hiv lt ld) (by kernel_rfl) (by kernel_rfl) rfl (by decide) (fun i j _ _ h => by have h2 : 28 + i = 28 + j := h; omega) (fun i hi => by show 28 + i < 60; omega) ?_ (fun _ => Rg.hall_of 1 (by kernel_rfl)) (fun kk o h1 h2 => by omega) ?_
  · intro i o hi ho a x D hnd hc hD hb seen K hK
    clear HQ
    rcases (by omega : i = 0 ∨ i = 1 ∨ i = 2 ∨ i = 3 ∨ i = 4 ∨ i = 5 ∨ i = 6 ∨ i = 7 ∨ i = 8 ∨ i = 9 ∨ i = 10 ∨ i = 11 ∨ i = 12) with rfl | rfl | rfl | rfl | rfl | rfl | rfl | rfl | rfl | rfl | rfl | rfl | rfl
    · obtain rfl := Option.some.inj ho
      exact Rg.op_value rfl rfl (Rg.ex_build a.eval _ 24 0 #[] rfl rfl (by simp [go_sem])) (hK (.slice (some ⟨x.heap.size, 0, none⟩) 0 0) (x.alloc (.cells #[] 42)) ⟨x.heap.size, rfl, hb.size, box_new x #[] 42⟩ ((Below.refl _ _).alloc hb.size _) fun j u _ _ _ _ _ h => stab j u _ _ h ((Below.refl _ _).alloc (Nat.le_refl _) _))
    · obtain rfl := Option.some.inj ho
      have e3 : a.eval (.tmp 3) = .pointer (some ⟨b2, 0, none⟩) := seen.kp 3 _ (nd 3 (by omega)) rfl
      exact Rg.op_value rfl rfl (Rg.ex_field a.eval _ 29 (.tmp 3) 2 rfl (by rw [e3]; simp [go_sem])) (hK _ _ rfl (Below.refl _ _) fun _ _ _ _ _ _ _ h => h)
    · obtain rfl := Option.some.inj ho
      have e29 : a.eval (.tmp 29) = .pointer (some ⟨b2, 2, none⟩) := seen.at_ ⟨1, .data⟩ (by simp) rfl (Or.inr (by decide))
      have y := (H2.out.on hb).cell 2
      simp only [List.getElem?_toArray, List.getElem?_cons_zero, List.getElem?_cons_succ] at y
      exact Rg.op_value rfl rfl (Rg.ex_load a.eval _ 24 (.tmp 29) rfl (by rw [e29]; simp [go_sem, y])) (hK _ _ rfl (Below.refl _ _) fun _ _ _ _ _ _ _ h => h)
    · obtain rfl := Option.some.inj ho
      have e8 : a.eval (.tmp 8) = .int .i64 (at_ : Int) := seen.kp 8 _ (nd 8 (by omega)) rfl
      exact Rg.op_value rfl rfl (Rg.ex_move a.eval _ (.tmp 8) rfl x) (hK _ _ e8 (Below.refl _ _) fun _ _ _ _ _ _ _ h => h)
    · obtain rfl := Option.some.inj ho
      have e30 : a.eval (.tmp 30) = .slice so sn sc := seen.at_ ⟨2, .data⟩ (by simp) rfl (Or.inr (by decide))
      have e31 : a.eval (.tmp 31) = .int .i64 (at_ : Int) := seen.at_ ⟨3, .data⟩ (by simp) rfl (Or.inr (by decide))
      exact Rg.op_value rfl rfl (Rg.ex_slice a.eval _ 24 (.tmp 30) none (some (.tmp 31)) none rfl (by show (Instr.sliceAt 24 (a.eval (.tmp 30)) none (some (a.eval (.tmp 31))) none).run Tryz.prog x = .ok lo x; rw [e30, e31]; exact SL.out x)) (hK _ _ rfl (Below.refl _ _) fun _ _ _ _ _ _ _ h => h)
    · obtain rfl := Option.some.inj ho
      obtain ⟨g, q0, hBg, hbx⟩ := seen.at_ ⟨0, .data⟩ (by simp) rfl (Or.inl rfl)
      have q0 : a.eval (.tmp 28) = .slice (some ⟨g, 0, none⟩) 0 0 := q0
      have e32 : a.eval (.tmp 32) = lo := seen.at_ ⟨4, .data⟩ (by simp) rfl (Or.inr (by decide))
      obtain ⟨v', x', r, o', gr⟩ := app_fresh okD W.heap.size hbx hBg (RL.out.on hb) LT.out 24
      exact Rg.op_value rfl rfl (Rg.ex_append a.eval _ (.tmp 28) (.tmp 32) 24 rfl q0 e32 r) (hK v' x' o' (gr.mono hb.size) fun j u _ _ _ _ _ h => stab j u _ _ h gr)
    · obtain rfl := Option.some.inj ho
      have e3 : a.eval (.tmp 3) = .pointer (some ⟨b2, 0, none⟩) := seen.kp 3 _ (nd 3 (by omega)) rfl
      exact Rg.op_value rfl rfl (Rg.ex_field a.eval _ 29 (.tmp 3) 2 rfl (by rw [e3]; simp [go_sem])) (hK _ _ rfl (Below.refl _ _) fun _ _ _ _ _ _ _ h => h)
    · obtain rfl := Option.some.inj ho
      have e34 : a.eval (.tmp 34) = .pointer (some ⟨b2, 2, none⟩) := seen.at_ ⟨6, .data⟩ (by simp) rfl (Or.inr (by decide))
      have y := (H2.out.on hb).cell 2
      simp only [List.getElem?_toArray, List.getElem?_cons_zero, List.getElem?_cons_succ] at y
      exact Rg.op_value rfl rfl (Rg.ex_load a.eval _ 24 (.tmp 34) rfl (by rw [e34]; simp [go_sem, y])) (hK _ _ rfl (Below.refl _ _) fun _ _ _ _ _ _ _ h => h)
    · obtain rfl := Option.some.inj ho
      have e8 : a.eval (.tmp 8) = .int .i64 (at_ : Int) := seen.kp 8 _ (nd 8 (by omega)) rfl
      exact Rg.op_value rfl rfl (Rg.ex_move a.eval _ (.tmp 8) rfl x) (hK _ _ e8 (Below.refl _ _) fun _ _ _ _ _ _ _ h => h)
    · obtain rfl := Option.some.inj ho
      have e36 : a.eval (.tmp 36) = .int .i64 (at_ : Int) := seen.at_ ⟨8, .data⟩ (by simp) rfl (Or.inr (by decide))
      exact Rg.op_value rfl rfl (Rg.ex_bin a.eval _ .add 3 (.tmp 36) (.const (.int .i64 1)) 3 rfl (by rw [e36]; exact add_one _ _ _ _ at_ AT1.out)) (hK _ _ rfl (Below.refl _ _) fun _ _ _ _ _ _ _ h => h)
    · obtain rfl := Option.some.inj ho
      have e35 : a.eval (.tmp 35) = .slice so sn sc := seen.at_ ⟨7, .data⟩ (by simp) rfl (Or.inr (by decide))
      have e37 : a.eval (.tmp 37) = .int .i64 ((at_ : Int) + 1) := seen.at_ ⟨9, .data⟩ (by simp) rfl (Or.inr (by decide))
      exact Rg.op_value rfl rfl (Rg.ex_slice a.eval _ 24 (.tmp 35) (some (.tmp 37)) none none rfl (by show (Instr.sliceAt 24 (a.eval (.tmp 35)) (some (a.eval (.tmp 37))) none none).run Tryz.prog x = .ok hiv x; rw [e35, e37]; exact SH.out x)) (hK _ _ rfl (Below.refl _ _) fun _ _ _ _ _ _ _ h => h)
    · obtain rfl := Option.some.inj ho
      have o33 : OwnD x W.heap.size (a.eval (.tmp 33)) (lt) := seen.at_ ⟨5, .data⟩ (by simp) rfl (Or.inl rfl)
      have e38 : a.eval (.tmp 38) = hiv := seen.at_ ⟨10, .data⟩ (by simp) rfl (Or.inr (by decide))
      have ox : RowD x (a.eval (.tmp 38)) ld := by rw [e38]; exact RH.out.on hb
      obtain ⟨v', x', r, o', gr⟩ := app_row okD W.heap.size o33 ox (by have := LTD.out; omega) LD.out hb.size 24
      exact Rg.op_value rfl rfl (Rg.ex_append a.eval _ (.tmp 33) (.tmp 38) 24 rfl rfl rfl r) (hK v' x' o' ((Below.refl _ x).grown gr hb.size fun j hj => (o33.lt j hj).1) fun j u hj dj nl nx ni h => by
        rcases (by omega : j = 0 ∨ j = 1 ∨ j = 2 ∨ j = 3 ∨ j = 4 ∨ j = 5 ∨ j = 6 ∨ j = 7 ∨ j = 8 ∨ j = 9 ∨ j = 10 ∨ j = 11 ∨ j = 12) with rfl | rfl | rfl | rfl | rfl | rfl | rfl | rfl | rfl | rfl | rfl | rfl | rfl
        · exact absurd rfl (fun _ : (0 : Nat) = 0 => nl (hD ⟨5, .data⟩ (by simp) rfl))
        · exact h
        · exact h
        · exact h
        · exact h
        · exact absurd rfl (fun _ : (0 : Nat) = 0 => nx rfl)
        · exact h
        · exact h
        · exact h
        · exact h
        · exact h
        · exact absurd rfl (fun _ : (0 : Nat) = 0 => ni rfl)
        · exact h)
    · obtain rfl := Option.some.inj ho
      have e3 : a.eval (.tmp 3) = .pointer (some ⟨b2, 0, none⟩) := seen.kp 3 _ (nd 3 (by omega)) rfl
      exact Rg.op_value rfl rfl (Rg.ex_field a.eval _ 29 (.tmp 3) 2 rfl (by rw [e3]; simp [go_sem])) (hK _ _ rfl (Below.refl _ _) fun _ _ _ _ _ _ _ h => h)
  · intro a w' df sz kp ⟨vs, hv⟩ hb
    have gr : a.tmps[39]? = some (vs 11) := (hv 11 (by omega)).1
    have gp : a.tmps[40]? = some (.pointer (some ⟨b2, 2, none⟩)) := by
      have h : vs 12 = .pointer (some ⟨b2, 2, none⟩) := (hv 12 (by omega)).2 (by decide)
      rw [← h]
      exact (hv 12 (by omega)).1
    have oR : OwnD w' W.heap.size (vs 11) (lt ++ ld) := (hv 11 (by omega)).2 (by decide)
    generalize vs 11 = xR at *
    obtain ⟨ca, cp, eR⟩ := (Row.of_own oR).len
    have hbx := H2.out.on hb
    have hblt := H2.out.lt
    have c5 := hbx.cell 2
    have f5 := hbx.fr 2
    simp only [List.getElem?_toArray, List.getElem?_cons_zero, List.getElem?_cons_succ] at c5
    have hb1 := box_set (k := 2) hbx xR
    show Rg.SeqFrom _ _ _ 1 13 a w'
    simp only [Rg.SeqFrom]
    refine Rg.op_store 24 (.tmp 40) (.tmp 39) rfl rfl rfl rfl (Rg.eval_some gp) (Rg.eval_some gr) (w' := w'.setCell ⟨b2, 2, none⟩ xR) (by rw [eR]; simp [go_sem, c5, f5]) ?_
    have kp2 : ∀ j, (j < 28 ∨ 41 ≤ j) → a.tmps[j]? = (u0 :: u1 :: u2 :: .pointer (some ⟨b2, 0, none⟩) :: .pointer (some ⟨b3, 0, none⟩) :: u5 :: u6 :: u7 :: .int .i64 (at_ : Int) :: u9 :: u10 :: u11 :: u12 :: u13 :: u14 :: u15 :: u16 :: u17 :: u18 :: u19 :: u20 :: u21 :: u22 :: u23 :: u24 :: u25 :: u26 :: u27 :: u28 :: u29 :: u30 :: u31 :: u32 :: u33 :: u34 :: u35 :: u36 :: u37 :: u38 :: u39 :: u40 :: u41 :: u42 :: u43 :: u44 :: u45 :: u46 :: u47 :: u48 :: u49 :: u50 :: u51 :: u52 :: u53 :: u54 :: u55 :: u56 :: u57 :: u58 :: u59 :: [])[j]? := fun j hj => (kp j (nd j hj)).trans List.getElem?_toArray
    obtain ⟨mid, hmid, rfl⟩ := Rg.frame_mid (bl := (u0 :: u1 :: u2 :: .pointer (some ⟨b2, 0, none⟩) :: .pointer (some ⟨b3, 0, none⟩) :: u5 :: u6 :: u7 :: .int .i64 (at_ : Int) :: u9 :: u10 :: u11 :: u12 :: u13 :: u14 :: u15 :: u16 :: u17 :: u18 :: u19 :: u20 :: u21 :: u22 :: u23 :: u24 :: u25 :: u26 :: u27 :: u28 :: u29 :: u30 :: u31 :: u32 :: u33 :: u34 :: u35 :: u36 :: u37 :: u38 :: u39 :: u40 :: u41 :: u42 :: u43 :: u44 :: u45 :: u46 :: u47 :: u48 :: u49 :: u50 :: u51 :: u52 :: u53 :: u54 :: u55 :: u56 :: u57 :: u58 :: u59 :: [])) 28 13 df sz (by simp) kp2
    match mid, hmid with
    | [v28, v29, v30, v31, v32, v33, v34, v35, v36, v37, v38, v39, v40], _ =>
      have e1 : some v39 = some xR := gr
      obtain rfl := Option.some.inj e1
      refine HQ.out _ v28 v29 v30 v31 v32 v33 v34 v35 v36 v37 v38 v39 v40 ?_ ?_ ?_ ?_ ?_
      · simpa using hb1
      · exact own_cell oR b2 2 _ hblt
      · exact fun B hB => (hb.mono (Nat.le_of_lt (Nat.lt_of_le_of_lt hB hblt))).setCell hB _
      · intro c cs t hc hbc
        exact (RowKit.Below.heap_setCell _ _ _ _ hc).trans (hbc.on hb)
      · intro k hk hne
        exact (RowKit.Below.heap_setCell _ _ _ _ hne).trans (hb.block k hk)
end Go.Proofs.YtonoadjmglkhaaaGreat.Bk

namespace Go.Proofs.YtonoadjmglkhaaaGreat.Bk
open Go.RowKit Go.Sort Go.Proofs.YtonoadjmglkhaaaGreat Go.Proofs.YtonoadjmglkhaaaGreat.Rw Go.Proofs.YtonoadjmglkhaaaGreat.Nm Go.Proofs.YtonoadjmglkhaaaGreat.Pr

def cutAt {α : Type} (l : List α) (k : Nat) : List α := l.take k ++ l.drop (k + 1)
def forgetB (b : Br) (x : Id) (f : Int) : Br × Bool := match b.adv[(findI (b.adv.map Ad.id) x).toNat]? with
  | none => (b, false)
  | some a => if findI (b.adv.map Ad.id) x = -1 then (b, false) else if a.par = f then ({ b with adv := cutAt b.adv (findI (b.adv.map Ad.id) x).toNat, ent := b.ent.filter fun e => decide (e.tree ≠ x) }, true) else (b, false)
theorem find_or (l : List XAd) (x : Id) : findI (l.map fun y => (y.1, y.2.1)) x = -1 ∨ ∃ (k : Nat) (y : XAd), findI (l.map fun y => (y.1, y.2.1)) x = k ∧ l[k]? = some y := by
  induction l with
  | nil => exact Or.inl rfl
  | cons a l ih =>
    rw [List.map_cons, findI]
    by_cases h : (a.1, a.2.1) = x
    · rw [if_pos h]
      exact Or.inr ⟨0, a, rfl, rfl⟩
    · rw [if_neg h]
      rcases ih with h2 | ⟨k, y, h2, h3⟩
      · rw [if_pos h2]
        exact Or.inl rfl
      · rw [if_neg (by omega), h2]
        exact Or.inr ⟨k + 1, y, by omega, by simpa using h3⟩
theorem All2.fil {α β : Type} {R : α → β → Prop} (p : α → Bool) (q : β → Bool) (hpq : ∀ a b, R a b → p a = q b) : ∀ {l m}, All2 R l m → All2 R (l.filter p) (m.filter q)
  | _, _, .nil => .nil
  | _, _, .cons (a := a) (b := b) x t => by
    have h := hpq a b x
    cases hb : q b
    · rw [List.filter_cons_of_neg (by rw [h, hb]; simp), List.filter_cons_of_neg (by rw [hb]; simp)]
      exact t.fil p q hpq
    · rw [List.filter_cons_of_pos (by rw [h, hb]), List.filter_cons_of_pos (by rw [hb])]
      exact .cons x (t.fil p q hpq)
theorem neId (a b c d : Int) (r : Bool) (h : (!(a == c && b == d)) = r) (w : World) : (binOp .neq 37 (.agg #[.int .i64 a, .int .i64 b]) (.agg #[.int .i64 c, .int .i64 d])).run Tryz.prog w = .ok (.bool r) w := by
  have st := stoodId
  subst h
  by_cases h1 : a = c <;> by_cases h2 : b = d <;> simp [go_sem, Tryz.underlying37, Tryz.underlying3, st, h1, h2]
def keepN (x : Id) (e : XEn) : Bool := decide ((e.1, e.2.1) ≠ x)
theorem fil_snoc {α : Type} (l : List α) (k : Nat) (y : α) (p : α → Bool) (h : l[k]? = some y) : (l.take (k + 1)).filter p = (l.take k).filter p ++ (if p y then [y] else []) := by
  rw [List.take_add_one, h, List.filter_append]
  cases hp : p y <;> simp [hp]
set_option maxRecDepth 100000 in
set_option maxHeartbeats 16000000 in
theorem rforget_any (b : Br) (nv av sv ev ov : Sl) (x : Id) (f : Int) (w : World) (h : BrIn w b nv av sv ev ov) (l2 : b.adv.length ≤ 900) (l3 : b.ent.length ≤ 900) :
    Calls Tryz.prog 13 #[brv b.me nv av sv ev ov, idv x, .int .i64 f] w fun e w' => (∃ av' ev' : Sl, e = .returned (.tuple #[brv b.me nv av' sv ev' ov, .bool (forgetB b x f).2]) ∧ BrIn w' (forgetB b x f).1 nv av' sv ev' ov) ∧ Below w.heap.size w w' := by
  obtain ⟨no, nn, nc⟩ := nv
  obtain ⟨ao, an, ac⟩ := av
  obtain ⟨so, sn, sc⟩ := sv
  obtain ⟨eo, en, ec⟩ := ev
  obtain ⟨oo, on_, oc⟩ := ov
  obtain ⟨c, d⟩ := x
  obtain ⟨xs, hx1, hx2⟩ := h.adv
  obtain ⟨es, he1, he2⟩ := h.ent
  have IDS := Lib.hid (ids_eq hx2)
  have XL := Lib.hid (show xs.length ≤ 900 by rw [hx2.len]; exact l2)
  have EL := Lib.hid (show es.length ≤ 900 by rw [he2.len]; exact l3)
  have HA2 := Lib.hid hx2
  have HE2 := Lib.hid he2
  obtain ⟨q1, q2, hq⟩ := hx1.len
  obtain ⟨rfl, rfl, rfl⟩ : ao = q1 ∧ an = xs.length ∧ ac = q2 := by
    have : Value.slice ao an ac = .slice q1 xs.length q2 := hq
    simpa using this
  obtain ⟨q1, q2, hq⟩ := he1.len
  obtain ⟨rfl, rfl, rfl⟩ : eo = q1 ∧ en = es.length ∧ ec = q2 := by
    have : Value.slice eo en ec = .slice q1 es.length q2 := hq
    simpa using this
  have FD := rfind_any b.me (.slice no nn nc) (.slice eo es.length ec) (.slice so sn sc) (.slice oo on_ oc) (ao, xs.length, ac) xs (c, d)
  have HH := Lib.hid h
  obtain ⟨h0, h1, h2, h3⟩ := three_new w #[.int .i64 b.me, .slice no nn nc, .slice ao xs.length ac, .slice so sn sc, .slice eo es.length ec, .slice oo on_ oc] #[.int .i64 c, .int .i64 d] #[.int .i64 0, .slice none 0 0, .slice none 0 0, .slice none 0 0, .slice none 0 0, .slice none 0 0] 29 37 29
  obtain ⟨n2, hn2⟩ : ∃ n, n = xs.length := ⟨_, rfl⟩
  obtain ⟨n3, hn3⟩ : ∃ n, n = es.length := ⟨_, rfl⟩
  simp only [← hn2, ← hn3] at h0 h1 h2 h3 hx1 he1 HH FD ⊢
  have B0 := Lib.hid h0
  have X2 := Lib.hid h1
  have X3 := Lib.hid h2
  have X5 := Lib.hid h3
  have HS := Lib.hid hx1
  have HE := Lib.hid he1
  have N2 := Lib.hid hn2
  have N3 := Lib.hid hn3
  obtain ⟨me, hme⟩ : ∃ me, me = b.me := ⟨_, rfl⟩
  simp only [← hme] at X2 B0 X3 X5 FD ⊢
  clear h0 h1 h2 h3 hx1 he1 hx2 he2 h hq hn2 hn3 l2 l3 hme
  go_enter Tryz.func13, Tryz.ntmps13
  go_upto_region 1 with fail
  generalize (((w.alloc (.cells #[.int .i64 me, .slice no nn nc, .slice ao n2 ac, .slice so sn sc, .slice eo n3 ec, .slice oo on_ oc] 29)).alloc (.cells #[.int .i64 c, .int .i64 d] 37)).alloc (.cells #[.int .i64 0, .slice none 0 0, .slice none 0 0, .slice none 0 0, .slice none 0 0, .slice none 0 0] 29)) = W at *
  have SW := Lib.hid (FD W (HS.out.on B0.out))
  clear FD
  have x0 := X2.out.cell 0
  have x1 := X2.out.cell 1
  have x2 := X2.out.cell 2
  have x3 := X2.out.cell 3
  have x4 := X2.out.cell 4
  have x5 := X2.out.cell 5
  have y0 := X3.out.cell 0
  have y1 := X3.out.cell 1
  simp only [List.getElem?_toArray, List.getElem?_cons_zero, List.getElem?_cons_succ] at x0 x1 x2 x3 x4 x5 y0 y1
  rcases find_or xs (c, d) with hf | ⟨k, y, hf, hy⟩
  · have LB := Lib.hid (show forgetB b (c, d) f = (b, false) by
      have hf' := hf
      rw [IDS.out] at hf'
      unfold forgetB
      rw [hf']
      split
      · rfl
      · rw [if_pos rfl])
    rw [hf] at SW
    clear hf
    go_wp2_with fail
    refine SW.out.mono ?_
    rintro e1 w1 ⟨rfl, hb⟩
    have B1 := Lib.hid (B0.out.trans (hb.mono B0.out.size))
    have X2a := X2.out.on hb
    have X5a := X5.out.on hb
    clear SW hb x0 x1 x2 x3 x4 x5 y0 y1
    have x0 := X2a.cell 0
    have x1 := X2a.cell 1
    have x2 := X2a.cell 2
    have x3 := X2a.cell 3
    have x4 := X2a.cell 4
    have x5 := X2a.cell 5
    have r0 := X5a.cell 0
    have r1 := X5a.cell 1
    have r2 := X5a.cell 2
    have r3 := X5a.cell 3
    have r4 := X5a.cell 4
    have r5 := X5a.cell 5
    have t0 := X5a.fr 0
    have t1 := X5a.fr 1
    have t2 := X5a.fr 2
    have t3 := X5a.fr 3
    have t4 := X5a.fr 4
    have t5 := X5a.fr 5
    simp only [List.getElem?_toArray, List.getElem?_cons_zero, List.getElem?_cons_succ] at x0 x1 x2 x3 x4 x5 r0 r1 r2 r3 r4 r5
    have zz := X5a.lt
    have FB := Lib.hid (setB_box X5a (.int .i64 me) (.slice no nn nc) (.slice ao n2 ac) (.slice so sn sc) (.slice eo n3 ec) (.slice oo on_ oc))
    have BL := Lib.hid (setB_below (b := w.heap.size + 1 + 1) B1.out (by omega) (.int .i64 me) (.slice no nn nc) (.slice ao n2 ac) (.slice so sn sc) (.slice eo n3 ec) (.slice oo on_ oc))
    clear X2 X3 X5 X2a X5a HS HE
    go_wp2_with fail
    have v0 := FB.out.cell 0
    have v1 := FB.out.cell 1
    have v2 := FB.out.cell 2
    have v3 := FB.out.cell 3
    have v4 := FB.out.cell 4
    have v5 := FB.out.cell 5
    simp at v0 v1 v2 v3 v4 v5
    refine bodyPost_ret (v := .tuple #[.agg #[.int .i64 me, .slice no nn nc, .slice ao n2 ac, .slice so sn sc, .slice eo n3 ec, .slice oo on_ oc], .bool false]) (by simp [results, Tryz.results13, go_sem, v0, v1, v2, v3, v4, v5]) rfl ?_
    rw [LB.out]
    exact ⟨⟨(ao, n2, ac), (eo, n3, ec), rfl, HH.out.on BL.out⟩, BL.out⟩
  · rw [hf] at SW
    have hk := (List.getElem?_eq_some_iff.1 hy).1
    have XL2 := XL.out
    have hkn : k < n2 := by rw [N2.out]; exact hk
    have HF := Lib.hid hf
    have HY := Lib.hid hy
    obtain ⟨p, ix, px⟩ := elD HS.out rfl N2.out.symm hy
    have LB := Lib.hid (show ∀ a, b.adv[k]? = some a → forgetB b (c, d) f = if a.par = f then ({ b with adv := cutAt b.adv k, ent := b.ent.filter fun e => decide (e.tree ≠ (c, d)) }, true) else (b, false) from fun a ha => by
      have hf' := HF.out
      rw [IDS.out] at hf'
      unfold forgetB
      rw [hf', Int.toNat_natCast, ha]
      simp only
      rw [if_neg (by omega)])
    obtain ⟨z1, z2, ⟨zo, zn, zc⟩, par⟩ := y
    obtain ⟨a, hak⟩ : ∃ a, b.adv[k]? = some a := ⟨_, List.getElem?_eq_getElem (by rw [← HA2.out.len]; exact hk)⟩
    have hap : a.par = par := by
      obtain ⟨z, hz1, hz2⟩ := HA2.out.at k a hak
      rw [HY.out] at hz1
      obtain rfl := Option.some.inj hz1
      exact hz2.2.1.symm
    have LC := LB.out a hak
    rw [hap] at LC
    have hik : decide ((k : Int) < 0) = false := decide_eq_false (by omega)
    go_wp2_with fail
    refine SW.out.mono ?_
    rintro e1 w1 ⟨rfl, hb⟩
    have B1 := Lib.hid (B0.out.trans (hb.mono B0.out.size))
    have X2a := X2.out.on hb
    have X3a := X3.out.on hb
    have X5a := X5.out.on hb
    have px2 := px w1 B1.out

    obtain ⟨p0, p1, p2, p3⟩ := px2
    clear SW hb px HF LB hf hy hap hak x0 x1 x2 x3 x4 x5 y0 y1
    by_cases hpf : par = f
    · rw [if_pos hpf] at LC
      have LB := Lib.hid LC
      have hne : (par != f) = false := by simp [hpf]
      have HPF := Lib.hid hpf
      have Z2 := Lib.hid X2a
      have Z3 := Lib.hid X3a
      have Z5 := Lib.hid X5a
      have x0 := X2a.cell 0
      have x1 := X2a.cell 1
      have x2 := X2a.cell 2
      have x3 := X2a.cell 3
      have x4 := X2a.cell 4
      have x5 := X2a.cell 5
      have r0 := X5a.cell 0
      have r1 := X5a.cell 1
      have r2 := X5a.cell 2
      have r3 := X5a.cell 3
      have r4 := X5a.cell 4
      have r5 := X5a.cell 5
      have t0 := X5a.fr 0
      have t1 := X5a.fr 1
      have t2 := X5a.fr 2
      have t3 := X5a.fr 3
      have t4 := X5a.fr 4
      have t5 := X5a.fr 5
      simp only [List.getElem?_toArray, List.getElem?_cons_zero, List.getElem?_cons_succ] at x0 x1 x2 x3 x4 x5 r0 r1 r2 r3 r4 r5
      have zz := X5a.lt
      clear LC hpf X2 X3 X5 X2a X3a X5a
      have S1 := Lib.hid (HS.out.on B1.out)
      go_upto_region 4 with fail
      refine cut4 _ w1 w.heap.size (w.heap.size + 1) me _ _ _ _ ao n2 ac k xs _ _ _ _ _ _ _ _ _ _ _ _ _ _ _ _ _ _ _ _ _ _ _ _ _ _ _ _ _ _ _ _ _ _ _ _ _ _ _ _ _ _ _ _ _ _ _ _ _ _ _ _ _ _ _ _ _ Z2.out S1.out (by omega) XL.out ?_
      intro xw v28 v29 v30 v31 v32 v33 v34 v35 v36 v37 v38 v39 v40 hbx ho hbl hoth hblk
      obtain ⟨td1, td2, htv⟩ := (Row.of_own ho).len
      obtain ⟨tl, htl⟩ : ∃ n, n = (xs.take k ++ xs.drop (k + 1)).length := ⟨_, rfl⟩
      rw [← htl] at htv
      subst htv
      have B2 := Lib.hid (B1.out.trans (hbl _ (Nat.le_refl _)))
      have A2 := Lib.hid hbx
      have A3 := Lib.hid (hoth _ _ _ (by omega) Z3.out)
      have A5 := Lib.hid (hoth _ _ _ (by omega) Z5.out)
      have OD := Lib.hid (own_fewer ho (show w.heap.size + 3 ≤ w1.heap.size by have := Z5.out.lt; omega))
      have E3 := Lib.hid (HE.out.on B2.out)
      have a4 := hbx.cell 4
      simp only [List.getElem?_toArray, List.getElem?_cons_zero, List.getElem?_cons_succ] at a4
      have W3 := Lib.hid A5.out.lt
      have nb := EL.out
      rw [← N3.out] at nb
      clear hbx ho hbl hoth hblk htl B1 Z2 Z3 Z5 S1 HS HE x0 x1 x2 x3 x4 x5 r0 r1 r2 r3 r4 r5 t0 t1 t2 t3 t4 t5 zz ix p0 p1 p2 p3 hne hik
      go_wp2
      go_loopw [9, 44] (fun v i wr => ∃ q : Nat, q ≤ n3 ∧ i = .int .i64 q ∧ Below xw.heap.size xw wr ∧ OwnN wr xw.heap.size v ((es.take q).filter (keepN (c, d)))) (fun _ i _ => n3 - (intOf i).toNat)
      case atStart => exact ⟨0, Nat.zero_le _, rfl, Below.refl _ _, own_nil _ _⟩
      case round =>
        obtain ⟨q, hq, rfl, hbe, hown⟩ := hrel
        have BE := Lib.hid hbe
        have OE := Lib.hid hown
        clear hbe hown
        by_cases hlt : q < n3
        · obtain ⟨e, hy⟩ : ∃ e, es[q]? = some e := ⟨_, List.getElem?_eq_getElem (by rw [← N3.out]; exact hlt)⟩
          obtain ⟨p, ix, px⟩ := elN E3.out rfl N3.out.symm hy
          obtain ⟨p0, p1, p2, p3, p4, p5, p6⟩ := px wr BE.out
          have FS := Lib.hid (fil_snoc es q e (keepN (c, d)) hy)
          obtain ⟨y1, y2, y3, y4, ⟨yo, yn, yc⟩, y6, y7⟩ := e
          simp only at p0 p1 p2 p3 p4 p5 p6
          have NB := Lib.hid (newB wr (.cells #[.int .i64 y1, .int .i64 y2, .int .i64 y3, .int .i64 y4, .slice yo yn yc, .int .i64 y6, .bool y7] 58))
          have x0 := ((A3.out.on BE.out).on NB.out).cell 0
          have x1 := ((A3.out.on BE.out).on NB.out).cell 1
          simp only [List.getElem?_toArray, List.getElem?_cons_zero, List.getElem?_cons_succ] at x0 x1
          have hw3 : IntKind.i64.wrap ((q : Int) + 1) = (q : Int) + 1 := IntWalk.i64_in _ (by omega)
          obtain ⟨r, hr⟩ : ∃ r, (!(y1 == c && y2 == d)) = r := ⟨_, rfl⟩
          have he := neId y1 y2 c d r hr
          have KN := Lib.hid (show keepN (c, d) (y1, y2, y3, y4, (yo, yn, yc), y6, y7) = r by
            rw [← hr]
            unfold keepN
            by_cases h1 : y1 = c <;> by_cases h2 : y2 = d <;> simp [h1, h2])
          clear px hy hr
          cases r
          · go_wp2
            go_roundw
            case rel => exact ⟨q + 1, by omega, by go_num, BE.out.trans (NB.out.mono BE.out.size), by
              rw [FS.out, KN.out]
              simpa using own_on OE.out NB.out⟩
            case measure => simp [intOf]; omega
          · have NB2 := Lib.hid (newB (wr.alloc (.cells #[.int .i64 y1, .int .i64 y2, .int .i64 y3, .int .i64 y4, .slice yo yn yc, .int .i64 y6, .bool y7] 58)) (.cells #[.int .i64 y1, .int .i64 y2, .int .i64 y3, .int .i64 y4, .slice yo yn yc, .int .i64 y6, .bool y7] 58))
            have hlit := row_lit okN (wr.alloc (.cells #[.int .i64 y1, .int .i64 y2, .int .i64 y3, .int .i64 y4, .slice yo yn yc, .int .i64 y6, .bool y7] 58)) [(y1, y2, y3, y4, (yo, yn, yc), y6, y7)] 1 rfl (by simp) #[.int .i64 y1, .int .i64 y2, .int .i64 y3, .int .i64 y4, .slice yo yn yc, .int .i64 y6, .bool y7] rfl
            have o2 := own_on (own_on OE.out NB.out) NB2.out
            have hB : xw.heap.size ≤ ((wr.alloc (.cells #[.int .i64 y1, .int .i64 y2, .int .i64 y3, .int .i64 y4, .slice yo yn yc, .int .i64 y6, .bool y7] 58)).alloc (.cells #[.int .i64 y1, .int .i64 y2, .int .i64 y3, .int .i64 y4, .slice yo yn yc, .int .i64 y6, .bool y7] 58)).heap.size := by have h1 := BE.out.size; simp; omega
            obtain ⟨v', w', r', o', gr⟩ := app_row okN xw.heap.size o2 (Row.of_own hlit) (by have h1 := List.length_filter_le (keepN (c, d)) (es.take q); rw [List.length_take] at h1; omega) (by simp) hB 26
            have r' : (Builtin.append_ #[26, 26] 26 #[u9, .slice (some ⟨wr.heap.size + 1, 0, none⟩) 1 1]).run Tryz.prog ((wr.alloc (.cells #[.int .i64 y1, .int .i64 y2, .int .i64 y3, .int .i64 y4, .slice yo yn yc, .int .i64 y6, .bool y7] 58)).alloc (.cells #[.int .i64 y1, .int .i64 y2, .int .i64 y3, .int .i64 y4, .slice yo yn yc, .int .i64 y6, .bool y7] 58)) = .ok v' w' := by
              simpa [EN] using r'
            have BG := Lib.hid ((BE.out.trans ((NB.out.trans (NB2.out.mono NB.out.size)).mono BE.out.size)).grown gr hB fun j hj => (o2.lt j hj).1)
            have OG := Lib.hid o'
            clear hlit o2 hB o' gr OE
            go_wp2_with (first | (at_builtin; refine wpList_append_run rfl _ _ 26 rfl rfl rfl r' ?_) | fail)
            go_roundw
            case rel => exact ⟨q + 1, by omega, by go_num, BG.out, by
              rw [FS.out, KN.out]
              simpa using OG.out⟩
            case measure => simp [intOf]; omega
        · obtain rfl : q = n3 := by omega
          have e : es.take q = es := List.take_of_length_le (by have := N3.out; omega)
          rw [e] at OE
          obtain ⟨vo1, vo2, hv⟩ := (Row.of_own OE.out).len
          obtain ⟨vl, hvl⟩ : ∃ n, n = (es.filter (keepN (c, d))).length := ⟨_, rfl⟩
          rw [← hvl] at hv
          subst hv
          have G2 := A2.out.on BE.out
          have c4 := G2.cell 4
          have g4 := G2.fr 4
          have gl := G2.lt
          simp only [List.getElem?_toArray, List.getElem?_cons_zero, List.getElem?_cons_succ] at c4
          clear hvl e a4 hlt hq nb
          go_upto_region 13 with fail
          have X2a := box_set (k := 4) G2 (.slice vo1 vl vo2)
          simp only [List.setIfInBounds_toArray, List.set_cons_zero, List.set_cons_succ] at X2a
          have X5a : Box _ _ _ _ := (RowKit.Below.heap_setCell wr ⟨w.heap.size, 4, none⟩ (.slice vo1 vl vo2) _ (show w.heap.size + 1 + 1 ≠ w.heap.size by omega)).trans (A5.out.on BE.out)
          have OD2 := Lib.hid (own_cell (own_on OD.out BE.out) w.heap.size 4 (.slice vo1 vl vo2) (by omega))
          have OE2 := Lib.hid (own_cell OE.out w.heap.size 4 (.slice vo1 vl vo2) (by have := W3.out; omega))
          have BQ := Lib.hid ((B2.out.trans (BE.out.mono B2.out.size)).setCell (p := ⟨w.heap.size, 4, none⟩) (Nat.le_refl _) (.slice vo1 vl vo2))
          clear G2 c4 g4 gl OD OE B2 A2 A3 A5 E3
          generalize wr.setCell ⟨w.heap.size, 4, none⟩ (.slice vo1 vl vo2) = wq at *
          have x0 := X2a.cell 0
          have x1 := X2a.cell 1
          have x2 := X2a.cell 2
          have x3 := X2a.cell 3
          have x4 := X2a.cell 4
          have x5 := X2a.cell 5
          have r0 := X5a.cell 0
          have r1 := X5a.cell 1
          have r2 := X5a.cell 2
          have r3 := X5a.cell 3
          have r4 := X5a.cell 4
          have r5 := X5a.cell 5
          have t0 := X5a.fr 0
          have t1 := X5a.fr 1
          have t2 := X5a.fr 2
          have t3 := X5a.fr 3
          have t4 := X5a.fr 4
          have t5 := X5a.fr 5
          simp only [List.getElem?_toArray, List.getElem?_cons_zero, List.getElem?_cons_succ] at x0 x1 x2 x3 x4 x5 r0 r1 r2 r3 r4 r5
          have zz := X5a.lt
          have FB := Lib.hid (setB_box X5a (.int .i64 me) (.slice no nn nc) (.slice td1 tl td2) (.slice so sn sc) (.slice vo1 vl vo2) (.slice oo on_ oc))
          have BL := Lib.hid (setB_below (b := w.heap.size + 1 + 1) BQ.out (by omega) (.int .i64 me) (.slice no nn nc) (.slice td1 tl td2) (.slice so sn sc) (.slice vo1 vl vo2) (.slice oo on_ oc))
          have FD := Lib.hid (setB_ownA OD2.out (w.heap.size + 1 + 1) (by omega) (.int .i64 me) (.slice no nn nc) (.slice td1 tl td2) (.slice so sn sc) (.slice vo1 vl vo2) (.slice oo on_ oc))
          have FE := Lib.hid (setB_ownA OE2.out (w.heap.size + 1 + 1) (by have := W3.out; omega) (.int .i64 me) (.slice no nn nc) (.slice td1 tl td2) (.slice so sn sc) (.slice vo1 vl vo2) (.slice oo on_ oc))
          clear OD2 OE2 BQ X2a X5a
          go_wp2_with fail
          have v0 := FB.out.cell 0
          have v1 := FB.out.cell 1
          have v2 := FB.out.cell 2
          have v3 := FB.out.cell 3
          have v4 := FB.out.cell 4
          have v5 := FB.out.cell 5
          simp at v0 v1 v2 v3 v4 v5
          refine bodyPost_ret (v := .tuple #[.agg #[.int .i64 me, .slice no nn nc, .slice td1 tl td2, .slice so sn sc, .slice vo1 vl vo2, .slice oo on_ oc], .bool true]) (by simp [results, Tryz.results13, go_sem, v0, v1, v2, v3, v4, v5]) rfl ?_
          rw [LB.out]
          refine ⟨⟨(td1, tl, td2), (vo1, vl, vo2), rfl, ?_⟩, BL.out⟩
          have hI := HH.out.on BL.out
          refine ⟨hI.near, ⟨_, Row.of_own FD.out, ?_⟩, hI.seen, ⟨_, Row.of_own FE.out, ?_⟩, hI.own⟩
          · have hA := HA2.out.mono fun _ _ h => h.on BL.out
            exact (hA.take _).append (hA.drop _)
          · have hE := HE2.out.mono fun _ _ h => h.on BL.out
            exact hE.fil _ _ fun a b h => by unfold keepN; rw [h.1]
    · rw [if_neg hpf] at LC
      have LB := Lib.hid LC
      have hne : (par != f) = true := by simp [hpf]
      clear LC hpf
      have x0 := X2a.cell 0
      have x1 := X2a.cell 1
      have x2 := X2a.cell 2
      have x3 := X2a.cell 3
      have x4 := X2a.cell 4
      have x5 := X2a.cell 5
      have r0 := X5a.cell 0
      have r1 := X5a.cell 1
      have r2 := X5a.cell 2
      have r3 := X5a.cell 3
      have r4 := X5a.cell 4
      have r5 := X5a.cell 5
      have t0 := X5a.fr 0
      have t1 := X5a.fr 1
      have t2 := X5a.fr 2
      have t3 := X5a.fr 3
      have t4 := X5a.fr 4
      have t5 := X5a.fr 5
      simp only [List.getElem?_toArray, List.getElem?_cons_zero, List.getElem?_cons_succ] at x0 x1 x2 x3 x4 x5 r0 r1 r2 r3 r4 r5
      have zz := X5a.lt
      clear X3a
      have FB := Lib.hid (setB_box X5a (.int .i64 me) (.slice no nn nc) (.slice ao n2 ac) (.slice so sn sc) (.slice eo n3 ec) (.slice oo on_ oc))
      have BL := Lib.hid (setB_below (b := w.heap.size + 1 + 1) B1.out (by omega) (.int .i64 me) (.slice no nn nc) (.slice ao n2 ac) (.slice so sn sc) (.slice eo n3 ec) (.slice oo on_ oc))
      clear X2 X3 X5 X2a X5a HS HE
      go_wp2_with fail
      have v0 := FB.out.cell 0
      have v1 := FB.out.cell 1
      have v2 := FB.out.cell 2
      have v3 := FB.out.cell 3
      have v4 := FB.out.cell 4
      have v5 := FB.out.cell 5
      simp at v0 v1 v2 v3 v4 v5
      refine bodyPost_ret (v := .tuple #[.agg #[.int .i64 me, .slice no nn nc, .slice ao n2 ac, .slice so sn sc, .slice eo n3 ec, .slice oo on_ oc], .bool false]) (by simp [results, Tryz.results13, go_sem, v0, v1, v2, v3, v4, v5]) rfl ?_
      rw [LB.out]
      exact ⟨⟨(ao, n2, ac), (eo, n3, ec), rfl, HH.out.on BL.out⟩, BL.out⟩
end Go.Proofs.YtonoadjmglkhaaaGreat.Bk
