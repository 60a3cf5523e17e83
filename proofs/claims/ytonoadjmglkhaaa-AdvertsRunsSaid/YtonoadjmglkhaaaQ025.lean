/-
  A broker whose neighbours lie in a row of their own kind: what a store into a broker's variable leaves; loads and stores of brokers, IDs, advertisements. No program's function in it.
  slices.Sort, slices.Compact, slices.BinarySearch of numbers, as the library's contracts lay them at this program. No condition beyond what each states.
  slices.Sort and slices.Compact of a row of numbers of one's own: rising, each once. Condition: at most 900 of them.
-/
import Derived.Test.YtonoadjmglkhaaaQ024
import Derived.Test.YtonoadjmglkhaaaQ015
import Derived.Shelf.Slices.In.SortNone
import Derived.Shelf.Sort.Plain
import Derived.Shelf.Slices.CompactI
import Derived.Shelf.Slices.SearchI
import Derived.Test.YtonoadjmglkhaaaProg
import Derived.Test.YtonoadjmglkhaaaQ010
namespace Go.Proofs.Ytonoadjmglkhaaa.Av
open Go.RowKit Go.Sort Go.Proofs.Ytonoadjmglkhaaa Go.Proofs.Ytonoadjmglkhaaa.Rw Go.Proofs.Ytonoadjmglkhaaa.Nm Go.Proofs.Ytonoadjmglkhaaa.Pr Go.Proofs.Ytonoadjmglkhaaa.Bk

structure BrN (W : World) (b : Br) (nv av sv ev ov : Sl) : Prop where
  br : BrIn W b nv av sv ev ov
  no : NearOwn W nv b.near
theorem BrN.on {W W' : World} {b : Br} {nv av sv ev ov : Sl} (h : BrN W b nv av sv ev ov) (hb : Below W.heap.size W W') : BrN W' b nv av sv ev ov := ⟨h.br.on hb, h.no.on hb⟩
theorem BrN.keep {W W' : World} {k : Nat} {me : Int} {s1 s2 s3 s4 s5 : Sl} {b : Br} {nv av sv ev ov : Sl} (h : BrN W b nv av sv ev ov) (hb : Box W k (brcells me s1 s2 s3 s4 s5) 33) (hk : But k W W') : BrN W' b nv av sv ev ov := by
  obtain ⟨B, hn⟩ := h.no
  have hn2 : OwnI W' B (slv nv) b.near := hk.own hn hb (by decide)
  exact ⟨brin_keep h.br hb hk.1 (Row.of_own hn2), B, hn2⟩
abbrev zeroBr : Array Value := #[.int .i64 0, .slice none 0 0, .slice none 0 0, .slice none 0 0, .slice none 0 0, .slice none 0 0]
theorem brin_nil (W : World) (me : Int) {near : List Int} {nv : Sl} (h : RowI W (slv nv) near) : BrIn W ⟨me, near, [], [], [], []⟩ nv (none, 0, 0) (none, 0, 0) (none, 0, 0) (none, 0, 0) := ⟨h, ⟨[], row_nil _, .nil⟩, row_nil _, ⟨[], row_nil _, .nil⟩, ⟨[], row_nil _, .nil⟩⟩
/-- A list of numbers that rises is told by its members. -/
theorem rise_uniq : ∀ {l m : List Int}, l.Pairwise (· < ·) → m.Pairwise (· < ·) → (∀ x, x ∈ l ↔ x ∈ m) → l = m
  | [], [], _, _, _ => rfl
  | [], y :: m, _, _, h => by have := (h y).2 (by simp); simp at this
  | x :: l, [], _, _, h => by have := (h x).1 (by simp); simp at this
  | x :: l, y :: m, hl, hm, h => by
    have hl' := List.pairwise_cons.1 hl
    have hm' := List.pairwise_cons.1 hm
    have h1 : x = y := by
      rcases List.mem_cons.1 ((h x).1 (by simp)) with e | e
      · exact e
      · rcases List.mem_cons.1 ((h y).2 (by simp)) with e2 | e2
        · exact e2.symm
        · have a1 := hm'.1 x e
          have a2 := hl'.1 y e2
          omega
    subst h1
    rw [rise_uniq hl'.2 hm'.2 fun z => ⟨fun hz => ?_, fun hz => ?_⟩]
    · rcases List.mem_cons.1 ((h z).1 (List.mem_cons_of_mem _ hz)) with e | e
      · have := hl'.1 z hz
        omega
      · exact e
    · rcases List.mem_cons.1 ((h z).2 (List.mem_cons_of_mem _ hz)) with e | e
      · have := hm'.1 z hz
        omega
      · exact e
end Go.Proofs.Ytonoadjmglkhaaa.Av

namespace Go.Proofs
open Go.Shelf
def Try.sortI_ren : Go.Shelf.Ren := ⟨fun | 189 => 22 | 125 => 60 | 257 => 59 | 128 => 81 | 129 => 82 | 294 => 72 | 295 => 73 | 296 => 74 | 297 => 75 | 298 => 76 | 299 => 77 | 216 => 78 | 300 => 79 | 301 => 80 | 328 => 87 | 329 => 88 | 330 => 89 | 331 => 90 | 332 => 91 | 215 => 64 | 343 => 95 | n => n, fun | 28 => 27 | 3 => 3 | 46 => 102 | 0 => 0 | 51 => 122 | 53 => 124 | 4 => 4 | 183 => 115 | 182 => 114 | 131 => 94 | 5 => 5 | 9 => 9 | 218 => 127 | 222 => 131 | 228 => 135 | 229 => 136 | n => n, fun | n => n⟩
theorem Try.sortI : Go.Proofs.Lays.n189 Try.prog Try.sortI_ren := {
  mixed := by kernel_rfl
  f125 := Try.func60.trans (congrArg some (by kernel_rfl))
  f128 := Try.func81.trans (congrArg some (by kernel_rfl))
  f129 := Try.func82.trans (congrArg some (by kernel_rfl))
  f189 := Try.func22.trans (congrArg some (by kernel_rfl))
  f215 := Try.func64.trans (congrArg some (by kernel_rfl))
  f216 := Try.func78.trans (congrArg some (by kernel_rfl))
  f257 := Try.func59.trans (congrArg some (by kernel_rfl))
  f294 := Try.func72.trans (congrArg some (by kernel_rfl))
  f295 := Try.func73.trans (congrArg some (by kernel_rfl))
  f296 := Try.func74.trans (congrArg some (by kernel_rfl))
  f297 := Try.func75.trans (congrArg some (by kernel_rfl))
  f298 := Try.func76.trans (congrArg some (by kernel_rfl))
  f299 := Try.func77.trans (congrArg some (by kernel_rfl))
  f300 := Try.func79.trans (congrArg some (by kernel_rfl))
  f301 := Try.func80.trans (congrArg some (by kernel_rfl))
  f328 := Try.func87.trans (congrArg some (by kernel_rfl))
  f329 := Try.func88.trans (congrArg some (by kernel_rfl))
  f330 := Try.func89.trans (congrArg some (by kernel_rfl))
  f331 := Try.func90.trans (congrArg some (by kernel_rfl))
  f332 := Try.func91.trans (congrArg some (by kernel_rfl))
  f343 := Try.func95.trans (congrArg some (by kernel_rfl))
  t0 := Try.underlying0
  a0 := Try.isAgg0
  z0 := Try.sizeOf0
  v0 := Try.zeroValue0
  t3 := Try.underlying3
  a3 := Try.isAgg3
  z3 := Try.sizeOf3
  v3 := Try.zeroValue3
  t4 := Try.underlying4
  a4 := Try.isAgg4
  z4 := Try.sizeOf4
  v4 := Try.zeroValue4
  t5 := Try.underlying5
  a5 := Try.isAgg5
  z5 := Try.sizeOf5
  v5 := Try.zeroValue5
  t9 := Try.underlying9
  a9 := Try.isAgg9
  z9 := Try.sizeOf9
  v9 := Try.zeroValue9
  t28 := Try.underlying27
  a28 := Try.isAgg27
  z28 := Try.sizeOf27
  v28 := Try.zeroValue27
  t46 := Try.underlying102
  a46 := Try.isAgg102
  z46 := Try.sizeOf102
  v46 := Try.zeroValue102
  t51 := Try.underlying122
  a51 := Try.isAgg122
  z51 := Try.sizeOf122
  v51 := Try.zeroValue122
  t53 := Try.underlying124
  a53 := Try.isAgg124
  z53 := Try.sizeOf124
  v53 := Try.zeroValue124
  t131 := Try.underlying94
  a131 := Try.isAgg94
  z131 := Try.sizeOf94
  v131 := Try.zeroValue94
  t182 := Try.underlying114
  a182 := Try.isAgg114
  z182 := Try.sizeOf114
  v182 := Try.zeroValue114
  t183 := Try.underlying115
  a183 := Try.isAgg115
  z183 := Try.sizeOf115
  v183 := Try.zeroValue115
  t218 := Try.underlying127
  a218 := Try.isAgg127
  z218 := Try.sizeOf127
  v218 := Try.zeroValue127
  t222 := Try.underlying131
  a222 := Try.isAgg131
  z222 := Try.sizeOf131
  v222 := Try.zeroValue131
  t228 := Try.underlying135
  a228 := Try.isAgg135
  z228 := Try.sizeOf135
  v228 := Try.zeroValue135
  t229 := Try.underlying136
  a229 := Try.isAgg136
  z229 := Try.sizeOf136
  v229 := Try.zeroValue136 }
def Try.cptI_ren : Go.Shelf.Ren := ⟨fun | 20 => 23 | n => n, fun | 0 => 0 | 3 => 3 | 4 => 4 | 22 => 27 | n => n, fun | n => n⟩
theorem Try.cptI : Go.Proofs.Lays2.n20 Try.prog Try.cptI_ren := {
  mixed := by kernel_rfl
  i3 := by kernel_rfl
  f20 := Try.func23.trans (congrArg some (by kernel_rfl))
  t0 := Try.underlying0
  a0 := Try.isAgg0
  z0 := Try.sizeOf0
  v0 := Try.zeroValue0
  t3 := Try.underlying3
  a3 := Try.isAgg3
  z3 := Try.sizeOf3
  v3 := Try.zeroValue3
  t4 := Try.underlying4
  a4 := Try.isAgg4
  z4 := Try.sizeOf4
  v4 := Try.zeroValue4
  t22 := Try.underlying27
  a22 := Try.isAgg27
  z22 := Try.sizeOf27
  v22 := Try.zeroValue27 }
def Try.bsI_ren : Go.Shelf.Ren := ⟨fun | 25 => 83 | 31 => 78 | 32 => 92 | 37 => 64 | n => n, fun | 0 => 0 | 3 => 3 | 4 => 4 | 22 => 27 | 40 => 102 | n => n, fun | n => n⟩
theorem Try.bsI : Go.Proofs.Lays2.n25 Try.prog Try.bsI_ren := {
  mixed := by kernel_rfl
  f25 := Try.func83.trans (congrArg some (by kernel_rfl))
  f31 := Try.func78.trans (congrArg some (by kernel_rfl))
  f32 := Try.func92.trans (congrArg some (by kernel_rfl))
  f37 := Try.func64.trans (congrArg some (by kernel_rfl))
  t0 := Try.underlying0
  a0 := Try.isAgg0
  z0 := Try.sizeOf0
  v0 := Try.zeroValue0
  t3 := Try.underlying3
  a3 := Try.isAgg3
  z3 := Try.sizeOf3
  v3 := Try.zeroValue3
  t4 := Try.underlying4
  a4 := Try.isAgg4
  z4 := Try.sizeOf4
  v4 := Try.zeroValue4
  t22 := Try.underlying27
  a22 := Try.isAgg27
  z22 := Try.sizeOf27
  v22 := Try.zeroValue27
  t40 := Try.underlying102
  a40 := Try.isAgg102
  z40 := Try.sizeOf102
  v40 := Try.zeroValue102 }
end Go.Proofs

namespace Go.Proofs.Ytonoadjmglkhaaa.Av
open Go.RowKit Go.Proofs.Ytonoadjmglkhaaa Go.Proofs.Ytonoadjmglkhaaa.Rw Go.Proofs.Ytonoadjmglkhaaa.Nm Go.Proofs.Ytonoadjmglkhaaa.Pr Go.Proofs.Ytonoadjmglkhaaa.Bk Go.Sort

theorem put_take {α : Type} [Inhabited α] (enc : α → Value) (d : Array α) (cur : Array Value) (h : d.size ≤ cur.size) : (putCells enc 0 d cur).toList.take d.size = d.toList.map enc := by
  apply List.ext_getElem?
  intro j
  rw [List.getElem?_take]
  by_cases hj : j < d.size
  · have hc : j < cur.size := by omega
    simp [putCells, hj, hc]
  · simp [hj]
/-- A row of one's own, behind a sort. -/
theorem own_sorted {α β : Type} [Inhabited β] {E : Ek α} (K : E.Ok) {w : World} {B g cap : Nat} {l l' : List α} (h : Own E w B (.slice (some ⟨g, 0, none⟩) l.length cap) l) (enc : β → Value) (d : Array β) (hd : d.toList.map enc = flat E l') (hl : l'.length = l.length) (n : Nat) (os : Array Obj) :
    Own E (grow (putRow enc (Sort.ahead w n) g 0 d) os) B (.slice (some ⟨g, 0, none⟩) l.length cap) l' ∧ w.grownBy (grow (putRow enc (Sort.ahead w n) g 0 d) os) (some g) := by
  have hds : d.size = l.length * E.n := by
    rw [← hl, ← flat_length K l', ← hd]
    simp
  rcases own_open h with ⟨e, _⟩ | ⟨g', cap', cur, e, h1, h2, h3, h4, h5, h6⟩
  · cases e
  obtain ⟨rfl, rfl⟩ : g = g' ∧ cap = cap' := by simpa using e
  have hlt := lt_of_heap h2
  have hb : (grow (putRow enc (Sort.ahead w n) g 0 d) os).heap[g]? = some (.cells (putCells enc 0 d cur) E.t (0, 0)) := by
    rw [heap_grow_old _ _ (by simp [putRow, mapBlock, Sort.ahead]; exact hlt)]
    unfold Box at h2
    simp only [putRow, mapBlock, Sort.ahead, Array.getElem?_modify, if_true, h2]
    rfl
  have hfit : d.size ≤ cur.size := by
    rw [hds, h5]
    exact Nat.mul_le_mul_right _ h3
  refine ⟨⟨by rw [flat_length K], Or.inr ⟨g, cap, _, by rw [hl], h1, hb, by rw [hl]; exact h3, h4, by simp [putCells]; exact h5, ?_⟩⟩, ⟨rfl, rfl, rfl, by simp [putRow, mapBlock, Sort.ahead], fun k hk hne => ?_⟩⟩
  · rw [hl, ← hds, put_take enc d cur hfit, hd]
  · rw [heap_grow_old _ _ (by simp [putRow, mapBlock, Sort.ahead]; exact hk)]
    have hkg : g ≠ k := fun e => hne (by rw [e])
    simp [putRow, mapBlock, Sort.ahead, Array.getElem?_modify, hkg]
theorem holds_own {α : Type} {E : Ek α} {w : World} {B g cap : Nat} {l : List α} (K : E.Ok) {β : Type} [Inhabited β] (enc : β → Value) (d : Array β) (hd : d.toList.map enc = flat E l) (h : Own E w B (.slice (some ⟨g, 0, none⟩) l.length cap) l) : Holds enc w g 0 d ∧ g < w.heap.size := by
  rcases own_open h with ⟨e, _⟩ | ⟨g', cap', cur, e, h1, h2, h3, h4, h5, h6⟩
  · cases e
  obtain ⟨rfl, rfl⟩ : g = g' ∧ cap = cap' := by simpa using e
  refine ⟨fun j hj => ?_, h2.lt⟩
  rw [Nat.zero_add]
  refine ⟨?_, h2.fr j⟩
  rw [h2.cell j]
  have hsz : d.size = l.length * E.n := by
    rw [← flat_length K l, ← hd]
    simp
  have h7 : (cur.toList.take (l.length * E.n))[j]? = (d.toList.map enc)[j]? := by rw [h6, hd]
  rw [List.getElem?_take, if_pos (by omega)] at h7
  rw [Array.getElem?_toList] at h7
  rw [h7, List.getElem?_map, Array.getElem?_toList, getElem!_pos d j hj, Array.getElem?_eq_getElem hj]
  rfl
theorem sortI_any (w : World) (B : Nat) (v : Value) (l : List Int) (h : OwnI w B v l) (hlen : l.length ≤ 900) : Calls Try.prog 22 #[v] w fun e w' => e = .returned (.tuple #[]) ∧ ∃ l' : List Int, OwnI w' B v l' ∧ l'.Perm l ∧ l'.Pairwise (· ≤ ·) ∧ w.grownBy w' v.ownBlock := by
  rcases own_open h with ⟨rfl, rfl⟩ | ⟨g, cap, cur, rfl, h1, h2, h3, h4, h5, h6⟩
  · have hc := Any.slices_Sort_int_none Try.sortI none 0 w
    refine Calls.mono hc ?_
    rintro e w' ⟨rfl, rfl⟩
    exact ⟨rfl, [], h, List.Perm.refl _, List.Pairwise.nil, Rw.grown_refl _ _⟩
  · obtain ⟨hh, hlt⟩ := holds_own Nm.okI (Value.int .i64) l.toArray (by rw [flatI]) h
    have hc := Any.slices_Sort_int Try.sortI g 0 cap l w hh hlt (by omega)
    refine Calls.mono hc ?_
    rintro e w' ⟨rfl, n, os, rfl⟩
    have hs := own_sorted Nm.okI (l' := l.mergeSort fun x y => decide (x ≤ y)) h (Value.int .i64) (l.mergeSort fun x y => decide (x ≤ y)).toArray (by rw [flatI]) (List.length_mergeSort l) n os
    refine ⟨rfl, _, hs.1, List.mergeSort_perm _ _, ?_, hs.2⟩
    have hp := List.pairwise_mergeSort (le := fun x y : Int => decide (x ≤ y)) (fun a b c h1 h2 => by simp at h1 h2 ⊢; omega) (fun a b => by simp; omega) l
    exact hp.imp (fun {a b} hab => by simpa using hab)
theorem cpt_step (d : Array Int) (n : Nat) (hs : ∀ i j, i ≤ j → j < n → d[i]! ≤ d[j]!) : ∀ m, m ≤ n → (∀ x ∈ Lib.compactUpTo d m, ∃ j, j < m ∧ d[j]! = x) ∧ (∀ j, j < m → d[j]! ∈ Lib.compactUpTo d m) ∧ (Lib.compactUpTo d m).Pairwise (· < ·)
  | 0, _ => ⟨fun x h => by simp [Lib.compactUpTo] at h, fun j h => by omega, by simp [Lib.compactUpTo]⟩
  | m + 1, hm => by
    obtain ⟨h1, h2, h3⟩ := cpt_step d n hs m (by omega)
    rw [Lib.compactUpTo_succ]
    cases hk : Lib.keeps d m with
    | false =>
      simp only [Bool.false_eq_true, if_false, List.append_nil]
      have hk' : m ≠ 0 ∧ d[m]! = d[m - 1]! := by
        have h := of_decide_eq_false hk
        rw [not_or] at h
        exact ⟨h.1, Classical.not_not.1 h.2⟩
      refine ⟨fun x hx => ?_, fun j hj => ?_, h3⟩
      · obtain ⟨j, hj, e⟩ := h1 x hx
        exact ⟨j, by omega, e⟩
      · rcases Nat.lt_or_ge j m with h | h
        · exact h2 j h
        · obtain rfl : j = m := by omega
          rw [hk'.2]
          exact h2 _ (by omega)
    | true =>
      simp only [if_true]
      have hk' : m = 0 ∨ d[m]! ≠ d[m - 1]! := of_decide_eq_true hk
      refine ⟨fun x hx => ?_, fun j hj => ?_, ?_⟩
      · rcases List.mem_append.1 hx with h | h
        · obtain ⟨j, hj, e⟩ := h1 x h
          exact ⟨j, by omega, e⟩
        · exact ⟨m, by omega, (List.mem_singleton.1 h).symm⟩
      · rcases Nat.lt_or_ge j m with h | h
        · exact List.mem_append_left _ (h2 j h)
        · obtain rfl : j = m := by omega
          exact List.mem_append_right _ (by simp)
      · rw [List.pairwise_append]
        refine ⟨h3, List.pairwise_singleton _ _, fun a ha b hb => ?_⟩
        obtain ⟨j, hj, rfl⟩ := h1 a ha
        rw [List.mem_singleton.1 hb]
        have a1 := hs j (m - 1) (by omega) (by omega)
        have a2 := hs (m - 1) m (by omega) (by omega)
        rcases hk' with h | h
        · omega
        · omega
theorem compact_is (l : List Int) (hs : l.Pairwise (· ≤ ·)) : (Lib.compact l).Pairwise (· < ·) ∧ (∀ x, x ∈ Lib.compact l ↔ x ∈ l) ∧ (Lib.compact l).length ≤ l.length := by
  have hd : ∀ i j, i ≤ j → j < l.length → l.toArray[i]! ≤ l.toArray[j]! := by
    intro i j hij hj
    rw [getElem!_pos l.toArray i (by simp; omega), getElem!_pos l.toArray j (by simpa using hj)]
    rcases Nat.lt_or_ge i j with h | h
    · have := List.pairwise_iff_getElem.1 hs i j (by omega) hj h
      simpa using this
    · obtain rfl : i = j := by omega
      exact Int.le_refl _
  obtain ⟨h1, h2, h3⟩ := cpt_step l.toArray l.length hd l.length (Nat.le_refl _)
  refine ⟨h3, fun x => ⟨fun hx => ?_, fun hx => ?_⟩, ?_⟩
  · obtain ⟨j, hj, rfl⟩ := h1 x hx
    rw [getElem!_pos l.toArray j (by simpa using hj)]
    simp
  · obtain ⟨j, hj, rfl⟩ := List.mem_iff_getElem.1 hx
    have := h2 j hj
    rw [getElem!_pos l.toArray j (by simpa using hj)] at this
    simpa [Lib.compact] using this
  · unfold Lib.compact Lib.compactUpTo
    rw [List.length_map]
    exact Nat.le_trans (List.length_filter_le _ _) (by simp)
theorem cptI_any (w : World) (B : Nat) (v : Sl) (l : List Int) (h : OwnI w B (slv v) l) (hs : l.Pairwise (· ≤ ·)) (hlen : l.length ≤ 900) : Calls Try.prog 23 #[slv v] w fun e w' => (∃ v' : Sl, e = .returned (slv v') ∧ ∃ l' : List Int, OwnI w' B (slv v') l' ∧ l'.Pairwise (· < ·) ∧ ∀ x, x ∈ l' ↔ x ∈ l) ∧ w.grownBy w' (slv v).ownBlock := by
  obtain ⟨vo, vn, vc⟩ := v
  rcases own_open h with ⟨h0, rfl⟩ | ⟨g, cap, cur, h0, h1, h2, h3, h4, h5, h6⟩
  · obtain ⟨rfl, rfl, rfl⟩ : vo = none ∧ vn = 0 ∧ vc = 0 := by simpa using h0
    have hc := Any.slices_Compact_int_empty Try.cptI none 0 w
    refine Calls.mono hc ?_
    rintro e w' ⟨rfl, rfl⟩
    exact ⟨⟨(none, 0, 0), rfl, [], h, List.Pairwise.nil, fun _ => Iff.rfl⟩, Rw.grown_refl _ _⟩
  · obtain ⟨rfl, rfl, rfl⟩ : vo = some ⟨g, 0, none⟩ ∧ vn = l.length ∧ vc = cap := by simpa using h0
    obtain ⟨hh, hlt⟩ := holds_own Nm.okI (Value.int .i64) l.toArray (by rw [flatI]) h
    have hc := Any.slices_Compact_int Try.cptI g 0 vc l w hh (by omega) h3
    obtain ⟨c1, c2, c3⟩ := compact_is l hs
    refine Calls.mono hc ?_
    rintro e w' ⟨rfl, n, rfl⟩
    have ht := own_sorted Nm.okI (l' := Lib.compact l ++ List.replicate (l.length - (Lib.compact l).length) 0) h (Value.int .i64) (Lib.compact l ++ List.replicate (l.length - (Lib.compact l).length) 0).toArray (by rw [flatI]) (by rw [List.length_append, List.length_replicate]; omega) n #[]
    have hg : grow (putRow (Value.int .i64) (Sort.ahead w n) g 0 (Lib.compact l ++ List.replicate (l.length - (Lib.compact l).length) 0).toArray) #[] = putRow (Value.int .i64) (Sort.ahead w n) g 0 (Lib.compact l ++ List.replicate (l.length - (Lib.compact l).length) 0).toArray := grow_empty _
    rw [hg] at ht
    refine ⟨⟨(some ⟨g, 0, none⟩, (Lib.compact l).length, vc), rfl, Lib.compact l, ?_, c1, c2⟩, ht.2⟩
    rcases own_open ht.1 with ⟨e, _⟩ | ⟨g', cap', cur', e, k1, k2, k3, k4, k5, k6⟩
    · cases e
    · obtain ⟨rfl, _, rfl⟩ : g = g' ∧ l.length = _ ∧ vc = cap' := by simpa using e
      refine own_shut Nm.okI rfl k1 k2 (Nat.le_trans c3 h3) k4 k5 ?_
      have k7 := congrArg (List.take ((Lib.compact l).length * EI.n)) k6
      rw [List.take_take, flat_take Nm.okI, Nat.min_eq_left (Nat.mul_le_mul_right _ (by rw [List.length_append]; omega)), List.take_left'] at k7
      · exact k7
      · rfl
end Go.Proofs.Ytonoadjmglkhaaa.Av
