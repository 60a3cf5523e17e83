/-
  put of package adverts: an ID, an advertisement in its place. Conditions: the row is one's own and rises; at most 900 of them.
-/
import Derived.Test.YtncogjpmboglhaaQ019
import Derived.Test.YtncogjpmboglhaaQ020
import Derived.Test.YtncogjpmboglhaaQ022
namespace Go.Proofs.Ytncogjpmboglhaa.Av
open Go.RowKit Go.Sort Go.Proofs.Ytncogjpmboglhaa Go.Proofs.Ytncogjpmboglhaa.Rw Go.Proofs.Ytncogjpmboglhaa.Nm Go.Proofs.Ytncogjpmboglhaa.Pr Go.Proofs.Ytncogjpmboglhaa.Bk

theorem place_leJ (l : List XID) (y : XID) : placeK keyJ l y ≤ l.length := by
  rw [placeK_map]
  exact Nat.le_trans (place_le _ _) (by simp)
set_option maxRecDepth 100000 in
set_option maxHeartbeats 8000000 in
theorem putJ_any (B : Nat) (v : Sl) (l : List XID) (x : XID) (w : World) (ho : Own EJ w B (slv v) l) (hr : RiseK keyJ l) (hl : l.length ≤ 900) (hB : B ≤ w.heap.size) :
    Calls Try.prog 24 #[slv v, idv x, .func (.func 25) #[] #[]] w fun e w' => (∃ v' : Sl, e = .returned (slv v') ∧ Own EJ w' B (slv v') (insAt l (placeK keyJ l (keyJ x)) x)) ∧ Below B w w' ∧ (∀ j, j < w.heap.size → some j ≠ (slv v).ownBlock → w'.heap[j]? = w.heap[j]?) := by
  have h0 := newB w (.cells #[.int .i64 x.1, .int .i64 x.2] 23)
  have X := box_new w #[.int .i64 x.1, .int .i64 x.2] 23
  have C := Lib.hid (bsJ_any (slv v) l x _ ((Row.of_own ho).on h0) hr hl)
  obtain ⟨ks, hks⟩ : ∃ k, k = placeK keyJ l (keyJ x) := ⟨_, rfl⟩
  have KL : ks ≤ l.length := by rw [hks]; exact place_leJ _ _
  rw [← hks] at C
  rw [← hks]
  generalize thereK keyJ l (keyJ x) = th at *
  have OW := Lib.hid (Bk.own_on ho h0)
  have HV := Lib.hid (show (slv v).ownBlock ≠ none → ∃ g, (slv v).ownBlock = some g ∧ g < w.heap.size from fun hne => by
    cases hb : (slv v).ownBlock with
    | none => exact absurd hb hne
    | some g => exact ⟨g, rfl, (ho.lt g hb).2⟩)
  have B0 := Lib.hid ((Below.refl B w).alloc hB (.cells #[.int .i64 x.1, .int .i64 x.2] 23))
  have BN0 := Lib.hid h0
  have KK := Lib.hid KL
  have LL := Lib.hid hl
  have BB := Lib.hid hB
  clear h0 ho hr hl hB hks KL
  obtain ⟨c1, c2⟩ := x
  obtain ⟨vo, vn, vc⟩ := v
  simp only at C X
  have x0 := X.cell 0
  have x1 := X.cell 1
  simp only [List.getElem?_toArray, List.getElem?_cons_zero, List.getElem?_cons_succ] at x0 x1
  have XX := Lib.hid X
  clear X
  go_enter Try.func24, Try.ntmps24
  go_wp2_with fail
  have W1 := Lib.hid (show w.heap.size ≤ (w.alloc (.cells #[.int .i64 c1, .int .i64 c2] 23)).heap.size by simp)
  generalize w.alloc (.cells #[.int .i64 c1, .int .i64 c2] 23) = W at *
  refine C.out.mono ?_
  rintro e w1 ⟨rfl, hb⟩
  have Y := XX.out.on hb
  have y0 := Y.cell 0
  have y1 := Y.cell 1
  simp only [List.getElem?_toArray, List.getElem?_cons_zero, List.getElem?_cons_succ] at y0 y1
  have O1 := Lib.hid (Bk.own_on OW.out hb)
  have B1 := Lib.hid (B0.out.trans (hb.mono (Nat.le_trans BB.out W1.out)))
  have BW := Lib.hid (fun j (hj : j < w.heap.size) => (hb.block j (Nat.lt_of_lt_of_le hj W1.out)).trans (BN0.out.block j hj))
  have S1 := Lib.hid (Nat.le_trans W1.out hb.size)
  clear C Y hb x0 x1
  go_wp2_with fail
  have hl := LL.out
  have NB := newB w1 (.cells #[.int .i64 c1, .int .i64 c2] 23)
  refine (insert_anyJ B _ l ks (c1, c2) w1.heap.size _ (Bk.own_on O1.out NB) (box_new w1 #[.int .i64 c1, .int .i64 c2] 23) ?_ KK.out (by omega) (Nat.le_trans (Nat.le_trans BB.out S1.out) NB.size)).mono ?_
  · intro he
    obtain ⟨g, hg, hlt⟩ := HV.out (by rw [he]; simp)
    rw [he] at hg
    have := Option.some.inj hg
    have := S1.out
    omega
  rintro e w2 ⟨v', rfl, ho, hb, hoth⟩
  obtain ⟨a1, a2, hv⟩ := (Row.of_own ho).len
  have Q := Lib.hid (show (∃ v'' : Sl, Ending.returned v' = .returned (slv v'') ∧ Own EJ w2 B (slv v'') (insAt l ks (c1, c2))) ∧ Below B w w2 ∧ (∀ j, j < w.heap.size → some j ≠ (slv (vo, vn, vc)).ownBlock → w2.heap[j]? = w.heap[j]?) from ⟨⟨(a1, _, a2), by rw [hv], by subst hv; simpa [insAt] using ho⟩, (B1.out.trans (NB.mono (Nat.le_trans BB.out S1.out))).trans hb, fun j hj hne => (hoth j (Nat.lt_of_lt_of_le (Nat.lt_of_lt_of_le hj S1.out) NB.size) hne).trans ((NB.block j (Nat.lt_of_lt_of_le hj S1.out)).trans (BW.out j hj))⟩)
  clear ho hb hv hl NB
  go_wp2
  go_ret
  exact Q.out
theorem place_leD (l : List XAd) (y : XID) : placeK keyD l y ≤ l.length := by
  rw [placeK_map]
  exact Nat.le_trans (place_le _ _) (by simp)
set_option maxRecDepth 100000 in
set_option maxHeartbeats 8000000 in
theorem putD_any (B : Nat) (v : Sl) (l : List XAd) (x : XAd) (w : World) (ho : Own ED w B (slv v) l) (hr : RiseK keyD l) (hl : l.length ≤ 900) (hB : B ≤ w.heap.size) :
    Calls Try.prog 21 #[slv v, valD x, .func (.func 23) #[] #[]] w fun e w' => (∃ v' : Sl, e = .returned (slv v') ∧ Own ED w' B (slv v') (insAt l (placeK keyD l (keyD x)) x)) ∧ Below B w w' ∧ (∀ j, j < w.heap.size → some j ≠ (slv v).ownBlock → w'.heap[j]? = w.heap[j]?) := by
  have h0 := newB w (.cells #[.int .i64 x.1, .int .i64 x.2.1, slv x.2.2.1, .int .i64 x.2.2.2] 39)
  have X := box_new w #[.int .i64 x.1, .int .i64 x.2.1, slv x.2.2.1, .int .i64 x.2.2.2] 39
  have C := Lib.hid (bsD_any (slv v) l x _ ((Row.of_own ho).on h0) hr hl)
  obtain ⟨ks, hks⟩ : ∃ k, k = placeK keyD l (keyD x) := ⟨_, rfl⟩
  have KL : ks ≤ l.length := by rw [hks]; exact place_leD _ _
  have e1 : keyD x = (x.1, x.2.1) := rfl
  rw [← e1] at C
  rw [← hks] at C
  rw [← hks]
  generalize thereK keyD l (keyD x) = th at *
  have OW := Lib.hid (Bk.own_on ho h0)
  have HV := Lib.hid (show (slv v).ownBlock ≠ none → ∃ g, (slv v).ownBlock = some g ∧ g < w.heap.size from fun hne => by
    cases hb : (slv v).ownBlock with
    | none => exact absurd hb hne
    | some g => exact ⟨g, rfl, (ho.lt g hb).2⟩)
  have B0 := Lib.hid ((Below.refl B w).alloc hB (.cells #[.int .i64 x.1, .int .i64 x.2.1, slv x.2.2.1, .int .i64 x.2.2.2] 39))
  have BN0 := Lib.hid h0
  have KK := Lib.hid KL
  have LL := Lib.hid hl
  have BB := Lib.hid hB
  clear h0 ho hr hl hB hks KL
  obtain ⟨c1, c2, ⟨c3, c4, c5⟩, c6⟩ := x
  obtain ⟨vo, vn, vc⟩ := v
  simp only at C X
  have x0 := X.cell 0
  have x1 := X.cell 1
  have x2 := X.cell 2
  have x3 := X.cell 3
  simp only [List.getElem?_toArray, List.getElem?_cons_zero, List.getElem?_cons_succ] at x0 x1 x2 x3
  have XX := Lib.hid X
  clear X
  go_enter Try.func21, Try.ntmps21
  go_wp2_with fail
  have W1 := Lib.hid (show w.heap.size ≤ (w.alloc (.cells #[.int .i64 c1, .int .i64 c2, .slice c3 c4 c5, .int .i64 c6] 39)).heap.size by simp)
  generalize w.alloc (.cells #[.int .i64 c1, .int .i64 c2, .slice c3 c4 c5, .int .i64 c6] 39) = W at *
  refine C.out.mono ?_
  rintro e w1 ⟨rfl, hb⟩
  have Y := XX.out.on hb
  have y0 := Y.cell 0
  have y1 := Y.cell 1
  have y2 := Y.cell 2
  have y3 := Y.cell 3
  simp only [List.getElem?_toArray, List.getElem?_cons_zero, List.getElem?_cons_succ] at y0 y1 y2 y3
  have O1 := Lib.hid (Bk.own_on OW.out hb)
  have B1 := Lib.hid (B0.out.trans (hb.mono (Nat.le_trans BB.out W1.out)))
  have BW := Lib.hid (fun j (hj : j < w.heap.size) => (hb.block j (Nat.lt_of_lt_of_le hj W1.out)).trans (BN0.out.block j hj))
  have S1 := Lib.hid (Nat.le_trans W1.out hb.size)
  clear C Y hb x0 x1 x2 x3
  go_wp2_with fail
  have hl := LL.out
  have NB := newB w1 (.cells #[.int .i64 c1, .int .i64 c2, .slice c3 c4 c5, .int .i64 c6] 39)
  refine (insert_anyD B _ l ks (c1, c2, (c3, c4, c5), c6) w1.heap.size _ (Bk.own_on O1.out NB) (box_new w1 #[.int .i64 c1, .int .i64 c2, .slice c3 c4 c5, .int .i64 c6] 39) ?_ KK.out (by omega) (Nat.le_trans (Nat.le_trans BB.out S1.out) NB.size)).mono ?_
  · intro he
    obtain ⟨g, hg, hlt⟩ := HV.out (by rw [he]; simp)
    rw [he] at hg
    have := Option.some.inj hg
    have := S1.out
    omega
  rintro e w2 ⟨v', rfl, ho, hb, hoth⟩
  obtain ⟨a1, a2, hv⟩ := (Row.of_own ho).len
  have Q := Lib.hid (show (∃ v'' : Sl, Ending.returned v' = .returned (slv v'') ∧ Own ED w2 B (slv v'') (insAt l ks (c1, c2, (c3, c4, c5), c6))) ∧ Below B w w2 ∧ (∀ j, j < w.heap.size → some j ≠ (slv (vo, vn, vc)).ownBlock → w2.heap[j]? = w.heap[j]?) from ⟨⟨(a1, _, a2), by rw [hv], by subst hv; simpa [insAt] using ho⟩, (B1.out.trans (NB.mono (Nat.le_trans BB.out S1.out))).trans hb, fun j hj hne => (hoth j (Nat.lt_of_lt_of_le (Nat.lt_of_lt_of_le hj S1.out) NB.size) hne).trans ((NB.block j (Nat.lt_of_lt_of_le hj S1.out)).trans (BW.out j hj))⟩)
  clear ho hb hv hl NB
  go_wp2
  go_ret
  exact Q.out
end Go.Proofs.Ytncogjpmboglhaa.Av
