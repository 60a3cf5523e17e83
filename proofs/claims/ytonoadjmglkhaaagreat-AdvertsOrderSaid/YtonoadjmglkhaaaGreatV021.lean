/-
  slices.Sort and slices.Compact of a row of numbers of one's own: rising, each once. Condition: at most 900 of them.
  New of package adverts. Condition: at most 900 neighbours told.
  The region of AdvertsRuns that makes the broker. No condition.
-/
import Derived.Test.YtonoadjmglkhaaaGreatV020
import Derived.Test.YtonoadjmglkhaaaGreatV008
import Derived.Test.YtonoadjmglkhaaaGreatV011
import Derived.Test.YtonoadjmglkhaaaGreatV012
import Derived.Test.YtonoadjmglkhaaaGreatV005
namespace Go.Proofs.YtonoadjmglkhaaaGreat.Av
open Go.RowKit Go.Proofs.YtonoadjmglkhaaaGreat Go.Proofs.YtonoadjmglkhaaaGreat.Rw Go.Proofs.YtonoadjmglkhaaaGreat.Nm Go.Proofs.YtonoadjmglkhaaaGreat.Pr Go.Proofs.YtonoadjmglkhaaaGreat.Bk Go.Sort

theorem put_take {α : Type} [Inhabited α] (enc : α → Value) (d : Array α) (cur : Array Value) (h : d.size ≤ cur.size) : (putCells enc 0 d cur).toList.take d.size = d.toList.map enc := by
  apply List.ext_getElem?
  intro j
  rw [List.getElem?_take]
  by_cases hj : j < d.size
  · have hc : j < cur.size := by omega
    simp [putCells, hj, hc]
  · simp [hj]
/-- A row of one's own, behind a sort. -/
theorem own_sorted {α β : Type} [Inhabited β] {E : Ek α} (K : E.Ok) {w : World} {B g cap : Nat} {l l' : List α} (h : Own E w B (.slice (some ⟨g, 0, none⟩) l.length cap) l) (enc : β → Value) (d : Array β) (hd : d.toList.map enc = flat E l') (hl : l'.length = l.length) (n : Nat) (os : Array Obj) :
    Own E (grow (putRow enc (Sort.ahead w n) g 0 d) os) B (.slice (some ⟨g, 0, none⟩) l.length cap) l' ∧ w.grownBy (grow (putRow enc (Sort.ahead w n) g 0 d) os) (some g) := by
  have hds : d.size = l.length * E.n := by
    rw [← hl, ← flat_length K l', ← hd]
    simp
  rcases own_open h with ⟨e, _⟩ | ⟨g', cap', cur, e, h1, h2, h3, h4, h5, h6⟩
  · cases e
  obtain ⟨rfl, rfl⟩ : g = g' ∧ cap = cap' := by simpa using e
  have hlt := lt_of_heap h2
  have hb : (grow (putRow enc (Sort.ahead w n) g 0 d) os).heap[g]? = some (.cells (putCells enc 0 d cur) E.t (0, 0)) := by
    rw [heap_grow_old _ _ (by simp [putRow, mapBlock, Sort.ahead]; exact hlt)]
    unfold Box at h2
    simp only [putRow, mapBlock, Sort.ahead, Array.getElem?_modify, if_true, h2]
    rfl
  have hfit : d.size ≤ cur.size := by
    rw [hds, h5]
    exact Nat.mul_le_mul_right _ h3
  refine ⟨⟨by rw [flat_length K], Or.inr ⟨g, cap, _, by rw [hl], h1, hb, by rw [hl]; exact h3, h4, by simp [putCells]; exact h5, ?_⟩⟩, ⟨rfl, rfl, rfl, by simp [putRow, mapBlock, Sort.ahead], fun k hk hne => ?_⟩⟩
  · rw [hl, ← hds, put_take enc d cur hfit, hd]
  · rw [heap_grow_old _ _ (by simp [putRow, mapBlock, Sort.ahead]; exact hk)]
    have hkg : g ≠ k := fun e => hne (by rw [e])
    simp [putRow, mapBlock, Sort.ahead, Array.getElem?_modify, hkg]
theorem holds_own {α : Type} {E : Ek α} {w : World} {B g cap : Nat} {l : List α} (K : E.Ok) {β : Type} [Inhabited β] (enc : β → Value) (d : Array β) (hd : d.toList.map enc = flat E l) (h : Own E w B (.slice (some ⟨g, 0, none⟩) l.length cap) l) : Holds enc w g 0 d ∧ g < w.heap.size := by
  rcases own_open h with ⟨e, _⟩ | ⟨g', cap', cur, e, h1, h2, h3, h4, h5, h6⟩
  · cases e
  obtain ⟨rfl, rfl⟩ : g = g' ∧ cap = cap' := by simpa using e
  refine ⟨fun j hj => ?_, h2.lt⟩
  rw [Nat.zero_add]
  refine ⟨?_, h2.fr j⟩
  rw [h2.cell j]
  have hsz : d.size = l.length * E.n := by
    rw [← flat_length K l, ← hd]
    simp
  have h7 : (cur.toList.take (l.length * E.n))[j]? = (d.toList.map enc)[j]? := by rw [h6, hd]
  rw [List.getElem?_take, if_pos (by omega)] at h7
  rw [Array.getElem?_toList] at h7
  rw [h7, List.getElem?_map, Array.getElem?_toList, getElem!_pos d j hj, Array.getElem?_eq_getElem hj]
  rfl
theorem sortI_any (w : World) (B : Nat) (v : Value) (l : List Int) (h : OwnI w B v l) (hlen : l.length ≤ 900) : Calls Tryz.prog 23 #[v] w fun e w' => e = .returned (.tuple #[]) ∧ ∃ l' : List Int, OwnI w' B v l' ∧ l'.Perm l ∧ l'.Pairwise (· ≤ ·) ∧ w.grownBy w' v.ownBlock := by
  rcases own_open h with ⟨rfl, rfl⟩ | ⟨g, cap, cur, rfl, h1, h2, h3, h4, h5, h6⟩
  · have hc := Any.slices_Sort_int_none Tryz.sortI none 0 w
    refine Calls.mono hc ?_
    rintro e w' ⟨rfl, rfl⟩
    exact ⟨rfl, [], h, List.Perm.refl _, List.Pairwise.nil, Rw.grown_refl _ _⟩
  · obtain ⟨hh, hlt⟩ := holds_own Nm.okI (Value.int .i64) l.toArray (by rw [flatI]) h
    have hc := Any.slices_Sort_int Tryz.sortI g 0 cap l w hh hlt (by omega)
    refine Calls.mono hc ?_
    rintro e w' ⟨rfl, n, os, rfl⟩
    have hs := own_sorted Nm.okI (l' := l.mergeSort fun x y => decide (x ≤ y)) h (Value.int .i64) (l.mergeSort fun x y => decide (x ≤ y)).toArray (by rw [flatI]) (List.length_mergeSort l) n os
    refine ⟨rfl, _, hs.1, List.mergeSort_perm _ _, ?_, hs.2⟩
    have hp := List.pairwise_mergeSort (le := fun x y : Int => decide (x ≤ y)) (fun a b c h1 h2 => by simp at h1 h2 ⊢; omega) (fun a b => by simp; omega) l
    exact hp.imp (fun {a b} hab => by simpa using hab)
theorem cpt_step (d : Array Int) (n : Nat) (hs : ∀ i j, i ≤ j → j < n → d[i]! ≤ d[j]!) : ∀ m, m ≤ n → (∀ x ∈ Lib.compactUpTo d m, ∃ j, j < m ∧ d[j]! = x) ∧ (∀ j, j < m → d[j]! ∈ Lib.compactUpTo d m) ∧ (Lib.compactUpTo d m).Pairwise (· < ·)
  | 0, _ => ⟨fun x h => by simp [Lib.compactUpTo] at h, fun j h => by omega, by simp [Lib.compactUpTo]⟩
  | m + 1, hm => by
    obtain ⟨h1, h2, h3⟩ := cpt_step d n hs m (by omega)
    rw [Lib.compactUpTo_succ]
    cases hk : Lib.keeps d m with
    | false =>
      simp only [Bool.false_eq_true, if_false, List.append_nil]
      have hk' : m ≠ 0 ∧ d[m]! = d[m - 1]! := by
        have h := of_decide_eq_false hk
        rw [not_or] at h
        exact ⟨h.1, Classical.not_not.1 h.2⟩
      refine ⟨fun x hx => ?_, fun j hj => ?_, h3⟩
      · obtain ⟨j, hj, e⟩ := h1 x hx
        exact ⟨j, by omega, e⟩
      · rcases Nat.lt_or_ge j m with h | h
        · exact h2 j h
        · obtain rfl : j = m := by omega
          rw [hk'.2]
          exact h2 _ (by omega)
    | true =>
      simp only [if_true]
      have hk' : m = 0 ∨ d[m]! ≠ d[m - 1]! := of_decide_eq_true hk
      refine ⟨fun x hx => ?_, fun j hj => ?_, ?_⟩
      · rcases List.mem_append.1 hx with h | h
        · obtain ⟨j, hj, e⟩ := h1 x h
          exact ⟨j, by omega, e⟩
        · exact ⟨m, by omega, (List.mem_singleton.1 h).symm⟩
      · rcases Nat.lt_or_ge j m with h | h
        · exact List.mem_append_left _ (h2 j h)
        · obtain rfl : j = m := by omega
          exact List.mem_append_right _ (by simp)
      · rw [List.pairwise_append]
        refine ⟨h3, List.pairwise_singleton _ _, fun a ha b hb => ?_⟩
        obtain ⟨j, hj, rfl⟩ := h1 a ha
        rw [List.mem_singleton.1 hb]
        have a1 := hs j (m - 1) (by omega) (by omega)
        have a2 := hs (m - 1) m (by omega) (by omega)
        rcases hk' with h | h
        · omega
        · omega
theorem compact_is (l : List Int) (hs : l.Pairwise (· ≤ ·)) : (Lib.compact l).Pairwise (· < ·) ∧ (∀ x, x ∈ Lib.compact l ↔ x ∈ l) ∧ (Lib.compact l).length ≤ l.length := by
  have hd : ∀ i j, i ≤ j → j < l.length → l.toArray[i]! ≤ l.toArray[j]! := by
    intro i j hij hj
    rw [getElem!_pos l.toArray i (by simp; omega), getElem!_pos l.toArray j (by simpa using hj)]
    rcases Nat.lt_or_ge i j with h | h
    · have := List.pairwise_iff_getElem.1 hs i j (by omega) hj h
      simpa using this
    · obtain rfl : i = j := by omega
      exact Int.le_refl _
  obtain ⟨h1, h2, h3⟩ := cpt_step l.toArray l.length hd l.length (Nat.le_refl _)
  refine ⟨h3, fun x => ⟨fun hx => ?_, fun hx => ?_⟩, ?_⟩
  · obtain ⟨j, hj, rfl⟩ := h1 x hx
    rw [getElem!_pos l.toArray j (by simpa using hj)]
    simp
  · obtain ⟨j, hj, rfl⟩ := List.mem_iff_getElem.1 hx
    have := h2 j hj
    rw [getElem!_pos l.toArray j (by simpa using hj)] at this
    simpa [Lib.compact] using this
  · unfold Lib.compact Lib.compactUpTo
    rw [List.length_map]
    exact Nat.le_trans (List.length_filter_le _ _) (by simp)
theorem cptI_any (w : World) (B : Nat) (v : Sl) (l : List Int) (h : OwnI w B (slv v) l) (hs : l.Pairwise (· ≤ ·)) (hlen : l.length ≤ 900) : Calls Tryz.prog 24 #[slv v] w fun e w' => (∃ v' : Sl, e = .returned (slv v') ∧ ∃ l' : List Int, OwnI w' B (slv v') l' ∧ l'.Pairwise (· < ·) ∧ ∀ x, x ∈ l' ↔ x ∈ l) ∧ w.grownBy w' (slv v).ownBlock := by
  obtain ⟨vo, vn, vc⟩ := v
  rcases own_open h with ⟨h0, rfl⟩ | ⟨g, cap, cur, h0, h1, h2, h3, h4, h5, h6⟩
  · obtain ⟨rfl, rfl, rfl⟩ : vo = none ∧ vn = 0 ∧ vc = 0 := by simpa using h0
    have hc := Any.slices_Compact_int_empty Tryz.cptI none 0 w
    refine Calls.mono hc ?_
    rintro e w' ⟨rfl, rfl⟩
    exact ⟨⟨(none, 0, 0), rfl, [], h, List.Pairwise.nil, fun _ => Iff.rfl⟩, Rw.grown_refl _ _⟩
  · obtain ⟨rfl, rfl, rfl⟩ : vo = some ⟨g, 0, none⟩ ∧ vn = l.length ∧ vc = cap := by simpa using h0
    obtain ⟨hh, hlt⟩ := holds_own Nm.okI (Value.int .i64) l.toArray (by rw [flatI]) h
    have hc := Any.slices_Compact_int Tryz.cptI g 0 vc l w hh (by omega) h3
    obtain ⟨c1, c2, c3⟩ := compact_is l hs
    refine Calls.mono hc ?_
    rintro e w' ⟨rfl, n, rfl⟩
    have ht := own_sorted Nm.okI (l' := Lib.compact l ++ List.replicate (l.length - (Lib.compact l).length) 0) h (Value.int .i64) (Lib.compact l ++ List.replicate (l.length - (Lib.compact l).length) 0).toArray (by rw [flatI]) (by rw [List.length_append, List.length_replicate]; omega) n #[]
    have hg : grow (putRow (Value.int .i64) (Sort.ahead w n) g 0 (Lib.compact l ++ List.replicate (l.length - (Lib.compact l).length) 0).toArray) #[] = putRow (Value.int .i64) (Sort.ahead w n) g 0 (Lib.compact l ++ List.replicate (l.length - (Lib.compact l).length) 0).toArray := grow_empty _
    rw [hg] at ht
    refine ⟨⟨(some ⟨g, 0, none⟩, (Lib.compact l).length, vc), rfl, Lib.compact l, ?_, c1, c2⟩, ht.2⟩
    rcases own_open ht.1 with ⟨e, _⟩ | ⟨g', cap', cur', e, k1, k2, k3, k4, k5, k6⟩
    · cases e
    · obtain ⟨rfl, _, rfl⟩ : g = g' ∧ l.length = _ ∧ vc = cap' := by simpa using e
      refine own_shut Nm.okI rfl k1 k2 (Nat.le_trans c3 h3) k4 k5 ?_
      have k7 := congrArg (List.take ((Lib.compact l).length * EI.n)) k6
      rw [List.take_take, flat_take Nm.okI, Nat.min_eq_left (Nat.mul_le_mul_right _ (by rw [List.length_append]; omega)), List.take_left'] at k7
      · exact k7
      · rfl
end Go.Proofs.YtonoadjmglkhaaaGreat.Av

namespace Go.Proofs.YtonoadjmglkhaaaGreat.Av
open Go.RowKit Go.Proofs.YtonoadjmglkhaaaGreat Go.Proofs.YtonoadjmglkhaaaGreat.Rw Go.Proofs.YtonoadjmglkhaaaGreat.Nm Go.Proofs.YtonoadjmglkhaaaGreat.Pr Go.Proofs.YtonoadjmglkhaaaGreat.Bk Go.Sort

/-- A broker that knows nothing but who is near. -/
abbrev newB0 (me : Int) (near : List Int) : Br := ⟨me, near, [], [], [], []⟩
set_option maxRecDepth 100000 in
set_option maxHeartbeats 8000000 in
theorem anew_any (me : Int) (v : Sl) (l : List Int) (w : World) (hv : RowI w (slv v) l) (hl : l.length ≤ 900) :
    Calls Tryz.prog 6 #[.int .i64 me, slv v] w fun e w' => (∃ (l' : List Int) (nv : Sl), e = .returned (brv me nv (none, 0, 0) (none, 0, 0) (none, 0, 0) (none, 0, 0)) ∧ BrIn w' (newB0 me l') nv (none, 0, 0) (none, 0, 0) (none, 0, 0) (none, 0, 0) ∧ (∃ B, OwnI w' B (slv nv) l') ∧ l'.Pairwise (· < ·) ∧ ∀ x, x ∈ l' ↔ x ∈ l) ∧ Below w.heap.size w w' := by
  have n0 := newB w (.cells #[.int .i64 0, .slice none 0 0, .slice none 0 0, .slice none 0 0, .slice none 0 0, .slice none 0 0] 29)
  have X := Lib.hid (box_new w #[.int .i64 0, .slice none 0 0, .slice none 0 0, .slice none 0 0, .slice none 0 0, .slice none 0 0] 29)
  have C := Lib.hid (cloneI_any v l _ (hv.on n0) hl)
  have B0 := Lib.hid n0
  have HL := Lib.hid hl
  obtain ⟨vo, vn, vc⟩ := v
  clear hv hl n0
  go_enter Tryz.func6, Tryz.ntmps6
  go_wp2_with fail
  generalize w.alloc (.cells #[.int .i64 0, .slice none 0 0, .slice none 0 0, .slice none 0 0, .slice none 0 0, .slice none 0 0] 29) = W at *
  refine C.out.mono ?_
  rintro e1 w1 ⟨⟨⟨p1, p2, p3⟩, rfl, ho⟩, hb⟩
  have B1 := Lib.hid (B0.out.trans (hb.mono B0.out.size))
  have X1 := Lib.hid (X.out.on hb)
  have hlt : w.heap.size < W.heap.size := X.out.lt
  have C2 := Lib.hid (sortI_any w1 W.heap.size _ l ho HL.out)
  have OT := Lib.hid (fun g hg => (ho.lt g hg).1)
  have HW := Lib.hid hlt
  clear hb ho C X
  go_wp2_with fail
  refine C2.out.mono ?_
  rintro e2 w2 ⟨rfl, l2, ho2, hp2, hs2, hg2⟩
  have B2 := Lib.hid (B1.out.grown hg2 B1.out.size (fun j hj => Nat.le_trans (Nat.le_of_lt HW.out) (OT.out j hj)))
  have X2 := Lib.hid (show Box w2 w.heap.size _ _ from (hg2.block _ X1.out.lt (fun e => by have := OT.out _ e.symm; have := HW.out; omega)).trans X1.out)
  have C3 := Lib.hid (cptI_any w2 W.heap.size (p1, p2, p3) l2 ho2 hs2 (by rw [hp2.length_eq]; exact HL.out))
  have PM := Lib.hid hp2
  have OT2 := Lib.hid (fun g hg => (ho2.lt g hg).1)
  clear ho2 hp2 hs2 hg2 C2 OT X1
  go_wp2_with fail
  refine C3.out.mono ?_
  rintro e3 w3 ⟨⟨⟨t1, t2, t3⟩, rfl, l3, ho3, hs3, hm3⟩, hg3⟩
  have B3 := Lib.hid (B2.out.grown hg3 B2.out.size (fun j hj => Nat.le_trans (Nat.le_of_lt HW.out) (OT2.out j hj)))
  have Y := show Box w3 w.heap.size _ _ from (hg3.block _ X2.out.lt (fun e => by have := OT2.out _ e.symm; have := HW.out; omega)).trans X2.out
  have y0 := Y.cell 0
  have y1 := Y.cell 1
  have y2 := Y.cell 2
  have y3 := Y.cell 3
  have y4 := Y.cell 4
  have y5 := Y.cell 5
  have f0 := Y.fr 0
  have f1 := Y.fr 1
  have f2 := Y.fr 2
  have f3 := Y.fr 3
  have f4 := Y.fr 4
  have f5 := Y.fr 5
  simp only [List.getElem?_toArray, List.getElem?_cons_zero, List.getElem?_cons_succ] at y0 y1 y2 y3 y4 y5
  have zz := Y.lt
  have FB := Lib.hid (setB_box Y (.int .i64 me) (.slice t1 t2 t3) (.slice none 0 0) (.slice none 0 0) (.slice none 0 0) (.slice none 0 0))
  have FL := Lib.hid (setB_below (b := w.heap.size) B3.out (Nat.le_refl _) (.int .i64 me) (.slice t1 t2 t3) (.slice none 0 0) (.slice none 0 0) (.slice none 0 0) (.slice none 0 0))
  have FO := Lib.hid (setB_ownA ho3 w.heap.size HW.out (.int .i64 me) (.slice t1 t2 t3) (.slice none 0 0) (.slice none 0 0) (.slice none 0 0) (.slice none 0 0))
  have Q := Lib.hid (show l3.Pairwise (· < ·) ∧ ∀ x, x ∈ l3 ↔ x ∈ l from ⟨hs3, fun x => (hm3 x).trans PM.out.mem_iff⟩)
  clear ho3 hs3 hm3 hg3 Y X2 C3 B2 B1 B0
  go_wp2_with fail
  have v0 := FB.out.cell 0
  have v1 := FB.out.cell 1
  have v2 := FB.out.cell 2
  have v3 := FB.out.cell 3
  have v4 := FB.out.cell 4
  have v5 := FB.out.cell 5
  simp at v0 v1 v2 v3 v4 v5
  refine bodyPost_ret (v := .agg #[.int .i64 me, .slice t1 t2 t3, .slice none 0 0, .slice none 0 0, .slice none 0 0, .slice none 0 0]) (by simp [results, Tryz.results6, go_sem, v0, v1, v2, v3, v4, v5]) rfl ?_
  exact ⟨⟨l3, (t1, t2, t3), rfl, ⟨Row.of_own FO.out, ⟨[], row_nil _, .nil⟩, row_nil _, ⟨[], row_nil _, .nil⟩, ⟨[], row_nil _, .nil⟩⟩, ⟨_, FO.out⟩, Q.out.1, Q.out.2⟩, FL.out⟩
end Go.Proofs.YtonoadjmglkhaaaGreat.Av

namespace Go.Proofs.YtonoadjmglkhaaaGreat.Av
open Go.RowKit Go.Sort Go.Proofs.YtonoadjmglkhaaaGreat Go.Proofs.YtonoadjmglkhaaaGreat.Rw Go.Proofs.YtonoadjmglkhaaaGreat.Nm Go.Proofs.YtonoadjmglkhaaaGreat.Pr Go.Proofs.YtonoadjmglkhaaaGreat.Bk

theorem ex_extract {P : Program} (ρ : Operand → Value) (o : Oper) (y : Operand) (k : Nat) (ho : o.op = .extract y k) {c : Array Value} {v : Value} (hx : ρ y = .tuple c) (hv : c[k]? = some v) (w : World) : (execOp ρ o).run P w = .ok (.value v) w := by
  simp [execOp, ho, hx, hv, go_sem]
/-- The broker of chapter 9's runs. -/
abbrev runB : Br := ⟨0, [2, 3], [⟨(1, 0), [], 2⟩], [(1, 0)], [], []⟩
theorem run_learn : learnB (newB0 0 [2, 3]) ⟨(1, 0), [], 2⟩ = (runB, true) := rfl
theorem run_few : Few (newB0 0 [2, 3]) := ⟨by simp, by simp, by simp, by simp, by simp⟩
theorem run_fewp : FewP (newB0 0 [2, 3]) := ⟨by simp, by simp, by simp⟩
def run2V (_B : Nat) (_b1 : Nat) (i : Nat) (v : Value) (x : World) : Prop :=
  match i with
  | 0 => ∃ sl : Sl, v = slv sl ∧ RowI x v [3, 2, 3]
  | 1 => ∃ nv : Sl, v = brv 0 nv (none, 0, 0) (none, 0, 0) (none, 0, 0) (none, 0, 0) ∧ BrN x (newB0 0 [2, 3]) nv (none, 0, 0) (none, 0, 0) (none, 0, 0) (none, 0, 0)
  | 2 => v = .agg #[.int .i64 1, .int .i64 0, .slice none 0 0, .int .i64 2]
  | 3 => ∃ nv av sv ev ov : Sl, v = .tuple #[brv 0 nv av sv ev ov, .bool true] ∧ BrN x runB nv av sv ev ov
  | 4 => ∃ nv av sv ev ov : Sl, v = .tuple #[brv 0 nv av sv ev ov, .bool true] ∧ BrN x runB nv av sv ev ov
  | 5 => ∃ nv av sv ev ov : Sl, v = brv 0 nv av sv ev ov ∧ BrN x runB nv av sv ev ov
  | 6 => v = .bool true
  | 7 => True
  | 8 => True
  | 9 => v = .bool true
  | _ => True
noncomputable def run2C : Code := ((Tryz.f19.body.bind (findRegion 2)).getD .skip)
set_option maxRecDepth 100000 in
set_option maxHeartbeats 8000000 in
theorem run2 (Q : Exit → Act → World → Prop) (W : World) (b1 : Nat) (u0 u2 u3 u4 u5 u6 u7 u8 u9 u10 u11 u12 u13 u14 u15 u16 u17 u18 u19 u20 u21 u22 u23 u24 u25 u26 u27 u28 u29 u30 u31 u32 u33 u34 u35 u36 u37 u38 u39 u40 u41 u42 u43 u44 u45 u46 u47 u48 u49 u50 u51 u52 u53 u54 : Value)
    (h1 : Box W b1 #[.int .i64 1, .int .i64 0, .slice none 0 0, .int .i64 2] 42)
    (hQ : ∀ (x : World) (bb : Nat) (v4 v5 v6 v7 v8 v9 v10 v11 v12 v13 v14 v15 v16 : Value) (m1 : Option Addr) (m2 m3 : Nat) (m4 : Option Addr) (m5 m6 : Nat) (m7 : Option Addr) (m8 m9 : Nat) (m10 : Option Addr) (m11 m12 : Nat) (m13 : Option Addr) (m14 m15 : Nat), W.heap.size ≤ bb → Box x bb #[.int .i64 0, .slice m1 m2 m3, .slice m4 m5 m6, .slice m7 m8 m9, .slice m10 m11 m12, .slice m13 m14 m15] 29 → BrN x runB (m1, m2, m3) (m4, m5, m6) (m7, m8, m9) (m10, m11, m12) (m13, m14, m15) → Below W.heap.size W x → Q .normal ⟨(u0 :: .pointer (some ⟨b1, 0, none⟩) :: .pointer (some ⟨bb, 0, none⟩) :: .bool true :: v4 :: v5 :: v6 :: v7 :: v8 :: v9 :: v10 :: v11 :: v12 :: v13 :: v14 :: v15 :: v16 :: u17 :: u18 :: u19 :: u20 :: u21 :: u22 :: u23 :: u24 :: u25 :: u26 :: u27 :: u28 :: u29 :: u30 :: u31 :: u32 :: u33 :: u34 :: u35 :: u36 :: u37 :: u38 :: u39 :: u40 :: u41 :: u42 :: u43 :: u44 :: u45 :: u46 :: u47 :: u48 :: u49 :: u50 :: u51 :: u52 :: u53 :: u54 :: []).toArray, []⟩ x) :
    Code.wp Tryz.prog run2C Q ⟨(u0 :: .pointer (some ⟨b1, 0, none⟩) :: u2 :: u3 :: u4 :: u5 :: u6 :: u7 :: u8 :: u9 :: u10 :: u11 :: u12 :: u13 :: u14 :: u15 :: u16 :: u17 :: u18 :: u19 :: u20 :: u21 :: u22 :: u23 :: u24 :: u25 :: u26 :: u27 :: u28 :: u29 :: u30 :: u31 :: u32 :: u33 :: u34 :: u35 :: u36 :: u37 :: u38 :: u39 :: u40 :: u41 :: u42 :: u43 :: u44 :: u45 :: u46 :: u47 :: u48 :: u49 :: u50 :: u51 :: u52 :: u53 :: u54 :: []).toArray, []⟩ W := by
  have HQ := Lib.hid hQ
  have H1 := Lib.hid h1
  clear hQ h1
  unfold run2C
  conv => arg 2; whnf
  have nb1 : ∀ i, i < 10 → [11, 12, 13, 14, 10, 15, 16, 2, 2, 3].getD i 0 ≠ 1 := by decide
  refine Rg.region_mk 10 7 8 5 (fun i => [11, 12, 13, 14, 10, 15, 16, 2, 2, 3].getD i 0) (fun i => if i = 0 then 1 else if i = 1 then 3 else if i = 3 then 4 else 10) (run2V W.heap.size b1) 29 #[.int .i64 0, .slice none 0 0, .slice none 0 0, .slice none 0 0, .slice none 0 0, .slice none 0 0] (fun v => match v with | .agg c => c | _ => #[]) (by kernel_rfl) (by kernel_rfl) rfl (by decide) (by decide) (by decide) (by decide) (by decide) (by decide) (by decide) (fun i j hi hj h1 h2 h => (by decide : ∀ i, i < 10 → ∀ j, j < 10 → i ≠ 8 → j ≠ 8 → [11, 12, 13, 14, 10, 15, 16, 2, 2, 3].getD i 0 = [11, 12, 13, 14, 10, 15, 16, 2, 2, 3].getD j 0 → i = j) i hi j hj h1 h2 h) (fun i hi => (by decide : ∀ i, i < 10 → [11, 12, 13, 14, 10, 15, 16, 2, 2, 3].getD i 0 < 55) i hi) ?_ ?_ ?_ ?_ ?_ ?_
  · intro i v x x' hi h hb
    rcases (by omega : i = 0 ∨ i = 1 ∨ i = 2 ∨ i = 3 ∨ i = 4 ∨ i = 5 ∨ i = 6 ∨ i = 7 ∨ i = 8 ∨ i = 9) with rfl | rfl | rfl | rfl | rfl | rfl | rfl | rfl | rfl | rfl
    · obtain ⟨s, h1, h2⟩ := h; exact ⟨s, h1, h2.on hb⟩
    · obtain ⟨s, h1, h2⟩ := h; exact ⟨s, h1, h2.on hb⟩
    · exact h
    · obtain ⟨a1, a2, a3, a4, a5, h1, h2⟩ := h; exact ⟨a1, a2, a3, a4, a5, h1, h2.on hb⟩
    · obtain ⟨a1, a2, a3, a4, a5, h1, h2⟩ := h; exact ⟨a1, a2, a3, a4, a5, h1, h2.on hb⟩
    · obtain ⟨a1, a2, a3, a4, a5, h1, h2⟩ := h; exact ⟨a1, a2, a3, a4, a5, h1, h2.on hb⟩
    · exact h
    · exact h
    · exact h
    · exact h
  · intro o ho
    obtain rfl := Option.some.inj ho
    exact ⟨⟨⟨7, .data⟩, by simp, rfl, rfl⟩, ⟨⟨5, .data⟩, by simp, rfl, rfl⟩⟩
  · intro i o hi hiA hiS ho a x hb seen K hK
    clear HQ
    rcases (by omega : i = 0 ∨ i = 1 ∨ i = 2 ∨ i = 3 ∨ i = 4 ∨ i = 5 ∨ i = 6 ∨ i = 9) with rfl | rfl | rfl | rfl | rfl | rfl | rfl | rfl
    · obtain rfl := Option.some.inj ho
      have hl := row_lit Nm.okI x [3, 2, 3] 3 rfl (by simp) #[.int .i64 3, .int .i64 2, .int .i64 3] (by rfl)
      exact Rg.op_value rfl rfl (Rg.ex_build a.eval _ 23 3 #[(0, .const (.int .i64 3)), (1, .const (.int .i64 2)), (2, .const (.int .i64 3))] rfl (ps := #[(0, .int .i64 3), (1, .int .i64 2), (2, .int .i64 3)]) (by simp only [List.map_toArray, List.map_cons, List.map_nil]; rfl) (by simp [go_sem])) (hK (.slice (some ⟨x.heap.size, 0, none⟩) 3 3) (x.alloc (.cells #[.int .i64 3, .int .i64 2, .int .i64 3] 3)) ⟨(some ⟨x.heap.size, 0, none⟩, 3, 3), rfl, Row.of_own hl⟩ ((Below.refl _ _).alloc (Nat.le_refl _) _))
    · obtain rfl := Option.some.inj ho
      have E11 := seen.at_ ⟨0, .data⟩ (by simp) rfl (by decide) (by decide) (Or.inl rfl)
      obtain ⟨sl, q0, q1⟩ := E11
      have q0 : a.eval (.tmp 11) = slv sl := q0
      have q1 : RowI x (slv sl) [3, 2, 3] := by rw [← q0]; exact q1
      exact Rg.op_call rfl rfl (Rw.ex_call2 a.eval _ (.const (.int .i64 0)) (.tmp 11) 3 23 6 rfl rfl q0 rfl _ (call_fn Tryz.func6 rfl rfl _ _)) (anew_any 0 sl [3, 2, 3] x q1 (by decide)) fun e w1 h => by
        obtain ⟨⟨l', nv, rfl, h1, h2, h3, h4⟩, h5⟩ := h
        have e1 : l' = [2, 3] := rise_uniq h3 (by decide) (fun y => (h4 y).trans (by simp; omega))
        subst e1
        exact ⟨_, rfl, hK _ _ ⟨nv, rfl, h1, h2⟩ h5⟩
    · obtain rfl := Option.some.inj ho
      have e1 : a.eval (.tmp 1) = .pointer (some ⟨b1, 0, none⟩) := seen.kp 1 _ nb1 rfl
      have y0 := (H1.out.on hb).cell 0
      have y1 := (H1.out.on hb).cell 1
      have y2 := (H1.out.on hb).cell 2
      have y3 := (H1.out.on hb).cell 3
      simp only [List.getElem?_toArray, List.getElem?_cons_zero, List.getElem?_cons_succ] at y0 y1 y2 y3
      exact Rg.op_value rfl rfl (Rg.ex_load a.eval _ 42 (.tmp 1) rfl (by rw [e1]; simp [go_sem, y0, y1, y2, y3])) (hK _ x rfl (Below.refl _ _))
    · obtain rfl := Option.some.inj ho
      have E12 := seen.at_ ⟨1, .data⟩ (by simp) rfl (by decide) (by decide) (Or.inl rfl)
      have e13 : a.eval (.tmp 13) = .agg #[.int .i64 1, .int .i64 0, .slice none 0 0, .int .i64 2] := seen.at_ ⟨2, .data⟩ (by simp) rfl (by decide) (by decide) (Or.inr (by decide))
      obtain ⟨nv, q0, q1⟩ := E12
      have hx : AdIn x (1, 0, (none, 0, 0), 2) ⟨(1, 0), [], 2⟩ := ⟨rfl, rfl, row_nil _⟩
      exact Rg.op_call rfl rfl (Rw.ex_call2 a.eval _ (.tmp 12) (.tmp 13) 29 42 10 rfl q0 e13 rfl _ (call_fn Tryz.func10 rfl rfl _ _)) (learn_any (newB0 0 [2, 3]) ⟨(1, 0), [], 2⟩ nv (none, 0, 0) (none, 0, 0) (none, 0, 0) (none, 0, 0) (1, 0, (none, 0, 0), 2) x q1.br hx run_few run_fewp (by simp) List.Pairwise.nil List.Pairwise.nil) fun e w1 h => by
        rw [run_learn] at h
        obtain ⟨⟨a1, a2, a3, a4, a5, rfl, h2, h3⟩, h5⟩ := h
        exact ⟨_, rfl, hK _ _ ⟨a1, a2, a3, a4, a5, rfl, h2, h3 q1.no⟩ h5⟩
    · obtain rfl := Option.some.inj ho
      have E14 := seen.at_ ⟨3, .data⟩ (by simp) rfl (by decide) (by decide) (Or.inl rfl)
      exact Rg.op_value rfl rfl (Rg.ex_move a.eval _ (.tmp 14) rfl x) (hK _ x E14 (Below.refl _ _))
    · obtain rfl := Option.some.inj ho
      have E10 := seen.at_ ⟨4, .data⟩ (by simp) rfl (by decide) (by decide) (Or.inr (by decide))
      obtain ⟨a1, a2, a3, a4, a5, h1, h2⟩ := E10
      exact Rg.op_value rfl rfl (ex_extract a.eval _ (.tmp 10) 0 rfl (c := #[brv 0 a1 a2 a3 a4 a5, .bool true]) h1 rfl x) (hK _ x ⟨a1, a2, a3, a4, a5, rfl, h2⟩ (Below.refl _ _))
    · obtain rfl := Option.some.inj ho
      have E10 := seen.at_ ⟨4, .data⟩ (by simp) rfl (by decide) (by decide) (Or.inr (by decide))
      obtain ⟨a1, a2, a3, a4, a5, h1, h2⟩ := E10
      exact Rg.op_value rfl rfl (ex_extract a.eval _ (.tmp 10) 1 rfl (c := #[brv 0 a1 a2 a3 a4 a5, .bool true]) h1 rfl x) (hK _ x rfl (Below.refl _ _))
    · obtain rfl := Option.some.inj ho
      have e16 : a.eval (.tmp 16) = .bool true := seen.at_ ⟨6, .data⟩ (by simp) rfl (by decide) (by decide) (Or.inr (by decide))
      exact Rg.op_value rfl rfl (Rg.ex_assign a.eval _ (.tmp 16) rfl x) (hK _ x e16 (Below.refl _ _))
  · intro o ho a x K hK
    obtain rfl := Option.some.inj ho
    exact Rg.op_value rfl rfl (Rg.ex_alloc a.eval _ 29 rfl (by simp [go_sem])) hK
  · intro o ho a x bb v D hc hD hb hA hC hvC hbb hbox K hK
    clear HQ
    obtain rfl := Option.some.inj ho
    obtain ⟨⟨m1, m2, m3⟩, ⟨m4, m5, m6⟩, ⟨m7, m8, m9⟩, ⟨m10, m11, m12⟩, ⟨m13, m14, m15⟩, hv1, hv2⟩ := hvC
    subst hv1
    have hbut := but_setB x bb (.int .i64 0) (.slice m1 m2 m3) (.slice m4 m5 m6) (.slice m7 m8 m9) (.slice m10 m11 m12) (.slice m13 m14 m15)
    refine Rg.op_store 29 (.tmp 2) (.tmp 15) rfl rfl rfl rfl hA hC (w' := setB x bb (.int .i64 0) (.slice m1 m2 m3) (.slice m4 m5 m6) (.slice m7 m8 m9) (.slice m10 m11 m12) (.slice m13 m14 m15)) (storeBr hbox _ _ _ _ _ _ _ _ _ _ _ _ _ _ _ _) (hK _ (setB_below hb hbb _ _ _ _ _ _) (setB_box hbox _ _ _ _ _ _) ?_)
    exact fun j u hj hjA hjS hdj hnl hls h => by
      rcases (by omega : j = 0 ∨ j = 1 ∨ j = 2 ∨ j = 3 ∨ j = 4 ∨ j = 5 ∨ j = 6 ∨ j = 9) with rfl | rfl | rfl | rfl | rfl | rfl | rfl | rfl
      · exact absurd (hD ⟨1, .phase⟩ (by simp) rfl) hnl
      · exact absurd (hD ⟨3, .chain⟩ (by simp) rfl) hnl
      · have h2 : u = .agg #[.int .i64 1, .int .i64 0, .slice none 0 0, .int .i64 2] := h; exact h2
      · exact absurd (hD ⟨4, .phase⟩ (by simp) rfl) hnl
      · obtain ⟨a1, a2, a3, a4, a5, h1, h2⟩ := h; exact ⟨a1, a2, a3, a4, a5, h1, h2.keep (s1 := (none, 0, 0)) (s2 := (none, 0, 0)) (s3 := (none, 0, 0)) (s4 := (none, 0, 0)) (s5 := (none, 0, 0)) (me := 0) hbox hbut⟩
      · obtain ⟨a1, a2, a3, a4, a5, h1, h2⟩ := h; exact ⟨a1, a2, a3, a4, a5, h1, h2.keep (s1 := (none, 0, 0)) (s2 := (none, 0, 0)) (s3 := (none, 0, 0)) (s4 := (none, 0, 0)) (s5 := (none, 0, 0)) (me := 0) hbox hbut⟩
      · have h2 : u = .bool true := h; exact h2
      · have h2 : u = .bool true := h; exact h2
  · intro a x bb v df sz kp gA gC hbb hbox hvC hbel ⟨vs, hv⟩
    obtain ⟨⟨m1, m2, m3⟩, ⟨m4, m5, m6⟩, ⟨m7, m8, m9⟩, ⟨m10, m11, m12⟩, ⟨m13, m14, m15⟩, hv1, hv2⟩ := hvC
    subst hv1
    have g2 : a.tmps[2]? = some (.pointer (some ⟨bb, 0, none⟩)) := gA
    have g3 : a.tmps[3]? = some (.bool true) := by
      have h : vs 9 = .bool true := (hv 9 (by decide) (by decide) (by decide)).2 (by decide)
      rw [← h]
      exact (hv 9 (by decide) (by decide) (by decide)).1
    have kp2 : ∀ j, (j < 2 ∨ 17 ≤ j) → a.tmps[j]? = (u0 :: .pointer (some ⟨b1, 0, none⟩) :: u2 :: u3 :: u4 :: u5 :: u6 :: u7 :: u8 :: u9 :: u10 :: u11 :: u12 :: u13 :: u14 :: u15 :: u16 :: u17 :: u18 :: u19 :: u20 :: u21 :: u22 :: u23 :: u24 :: u25 :: u26 :: u27 :: u28 :: u29 :: u30 :: u31 :: u32 :: u33 :: u34 :: u35 :: u36 :: u37 :: u38 :: u39 :: u40 :: u41 :: u42 :: u43 :: u44 :: u45 :: u46 :: u47 :: u48 :: u49 :: u50 :: u51 :: u52 :: u53 :: u54 :: [])[j]? := fun j hj => (kp j (fun i hi h => by have := (by decide : ∀ i, i < 10 → 2 ≤ [11, 12, 13, 14, 10, 15, 16, 2, 2, 3].getD i 0 ∧ [11, 12, 13, 14, 10, 15, 16, 2, 2, 3].getD i 0 < 17) i hi; omega)).trans List.getElem?_toArray
    obtain ⟨mid, hmid, rfl⟩ := Rg.frame_mid (bl := (u0 :: .pointer (some ⟨b1, 0, none⟩) :: u2 :: u3 :: u4 :: u5 :: u6 :: u7 :: u8 :: u9 :: u10 :: u11 :: u12 :: u13 :: u14 :: u15 :: u16 :: u17 :: u18 :: u19 :: u20 :: u21 :: u22 :: u23 :: u24 :: u25 :: u26 :: u27 :: u28 :: u29 :: u30 :: u31 :: u32 :: u33 :: u34 :: u35 :: u36 :: u37 :: u38 :: u39 :: u40 :: u41 :: u42 :: u43 :: u44 :: u45 :: u46 :: u47 :: u48 :: u49 :: u50 :: u51 :: u52 :: u53 :: u54 :: [])) 2 15 df sz (by simp) kp2
    match mid, hmid with
    | [v2, v3, v4, v5, v6, v7, v8, v9, v10, v11, v12, v13, v14, v15, v16], _ =>
      obtain rfl : v2 = .pointer (some ⟨bb, 0, none⟩) := Option.some.inj g2
      obtain rfl : v3 = .bool true := Option.some.inj g3
      exact HQ.out x bb _ _ _ _ _ _ _ _ _ _ _ _ _ m1 m2 m3 m4 m5 m6 m7 m8 m9 m10 m11 m12 m13 m14 m15 hbb hbox hv2 hbel
end Go.Proofs.YtonoadjmglkhaaaGreat.Av
