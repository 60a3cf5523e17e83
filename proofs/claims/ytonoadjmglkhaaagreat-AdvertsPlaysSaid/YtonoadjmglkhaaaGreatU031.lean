/-
  slices.Sort, slices.Compact, slices.BinarySearch of numbers, as the library's contracts lay them at this program. No condition beyond what each states.
  slices.Sort and slices.Compact of a row of numbers of one's own: rising, each once. Condition: at most 900 of them.
-/
import Derived.Shelf.Slices.In.SortNone
import Derived.Shelf.Sort.Plain
import Derived.Shelf.Slices.CompactI
import Derived.Shelf.Slices.SearchI
import Derived.Test.YtonoadjmglkhaaaGreatProg
import Derived.Test.YtonoadjmglkhaaaGreatU008
namespace Go.Proofs
open Go.Shelf
def Tryz.sortI_ren : Go.Shelf.Ren := ⟨fun | 189 => 23 | 125 => 76 | 257 => 75 | 128 => 113 | 129 => 114 | 294 => 104 | 295 => 105 | 296 => 106 | 297 => 107 | 298 => 108 | 299 => 109 | 216 => 110 | 300 => 111 | 301 => 112 | 328 => 128 | 329 => 129 | 330 => 130 | 331 => 131 | 332 => 132 | 215 => 92 | 343 => 139 | n => n, fun | 28 => 23 | 3 => 3 | 46 => 124 | 0 => 0 | 51 => 161 | 53 => 163 | 4 => 4 | 183 => 154 | 182 => 153 | 131 => 131 | 5 => 5 | 9 => 9 | 218 => 179 | 222 => 183 | 228 => 192 | 229 => 193 | n => n, fun | n => n⟩
theorem Tryz.sortI : Go.Proofs.Lays.n189 Tryz.prog Tryz.sortI_ren := {
  mixed := by kernel_rfl
  f125 := Tryz.func76.trans (congrArg some (by kernel_rfl))
  f128 := Tryz.func113.trans (congrArg some (by kernel_rfl))
  f129 := Tryz.func114.trans (congrArg some (by kernel_rfl))
  f189 := Tryz.func23.trans (congrArg some (by kernel_rfl))
  f215 := Tryz.func92.trans (congrArg some (by kernel_rfl))
  f216 := Tryz.func110.trans (congrArg some (by kernel_rfl))
  f257 := Tryz.func75.trans (congrArg some (by kernel_rfl))
  f294 := Tryz.func104.trans (congrArg some (by kernel_rfl))
  f295 := Tryz.func105.trans (congrArg some (by kernel_rfl))
  f296 := Tryz.func106.trans (congrArg some (by kernel_rfl))
  f297 := Tryz.func107.trans (congrArg some (by kernel_rfl))
  f298 := Tryz.func108.trans (congrArg some (by kernel_rfl))
  f299 := Tryz.func109.trans (congrArg some (by kernel_rfl))
  f300 := Tryz.func111.trans (congrArg some (by kernel_rfl))
  f301 := Tryz.func112.trans (congrArg some (by kernel_rfl))
  f328 := Tryz.func128.trans (congrArg some (by kernel_rfl))
  f329 := Tryz.func129.trans (congrArg some (by kernel_rfl))
  f330 := Tryz.func130.trans (congrArg some (by kernel_rfl))
  f331 := Tryz.func131.trans (congrArg some (by kernel_rfl))
  f332 := Tryz.func132.trans (congrArg some (by kernel_rfl))
  f343 := Tryz.func139.trans (congrArg some (by kernel_rfl))
  t0 := Tryz.underlying0
  a0 := Tryz.isAgg0
  z0 := Tryz.sizeOf0
  v0 := Tryz.zeroValue0
  t3 := Tryz.underlying3
  a3 := Tryz.isAgg3
  z3 := Tryz.sizeOf3
  v3 := Tryz.zeroValue3
  t4 := Tryz.underlying4
  a4 := Tryz.isAgg4
  z4 := Tryz.sizeOf4
  v4 := Tryz.zeroValue4
  t5 := Tryz.underlying5
  a5 := Tryz.isAgg5
  z5 := Tryz.sizeOf5
  v5 := Tryz.zeroValue5
  t9 := Tryz.underlying9
  a9 := Tryz.isAgg9
  z9 := Tryz.sizeOf9
  v9 := Tryz.zeroValue9
  t28 := Tryz.underlying23
  a28 := Tryz.isAgg23
  z28 := Tryz.sizeOf23
  v28 := Tryz.zeroValue23
  t46 := Tryz.underlying124
  a46 := Tryz.isAgg124
  z46 := Tryz.sizeOf124
  v46 := Tryz.zeroValue124
  t51 := Tryz.underlying161
  a51 := Tryz.isAgg161
  z51 := Tryz.sizeOf161
  v51 := Tryz.zeroValue161
  t53 := Tryz.underlying163
  a53 := Tryz.isAgg163
  z53 := Tryz.sizeOf163
  v53 := Tryz.zeroValue163
  t131 := Tryz.underlying131
  a131 := Tryz.isAgg131
  z131 := Tryz.sizeOf131
  v131 := Tryz.zeroValue131
  t182 := Tryz.underlying153
  a182 := Tryz.isAgg153
  z182 := Tryz.sizeOf153
  v182 := Tryz.zeroValue153
  t183 := Tryz.underlying154
  a183 := Tryz.isAgg154
  z183 := Tryz.sizeOf154
  v183 := Tryz.zeroValue154
  t218 := Tryz.underlying179
  a218 := Tryz.isAgg179
  z218 := Tryz.sizeOf179
  v218 := Tryz.zeroValue179
  t222 := Tryz.underlying183
  a222 := Tryz.isAgg183
  z222 := Tryz.sizeOf183
  v222 := Tryz.zeroValue183
  t228 := Tryz.underlying192
  a228 := Tryz.isAgg192
  z228 := Tryz.sizeOf192
  v228 := Tryz.zeroValue192
  t229 := Tryz.underlying193
  a229 := Tryz.isAgg193
  z229 := Tryz.sizeOf193
  v229 := Tryz.zeroValue193 }
def Tryz.cptI_ren : Go.Shelf.Ren := ⟨fun | 20 => 24 | n => n, fun | 0 => 0 | 3 => 3 | 4 => 4 | 22 => 23 | n => n, fun | n => n⟩
theorem Tryz.cptI : Go.Proofs.Lays2.n20 Tryz.prog Tryz.cptI_ren := {
  mixed := by kernel_rfl
  i3 := by kernel_rfl
  f20 := Tryz.func24.trans (congrArg some (by kernel_rfl))
  t0 := Tryz.underlying0
  a0 := Tryz.isAgg0
  z0 := Tryz.sizeOf0
  v0 := Tryz.zeroValue0
  t3 := Tryz.underlying3
  a3 := Tryz.isAgg3
  z3 := Tryz.sizeOf3
  v3 := Tryz.zeroValue3
  t4 := Tryz.underlying4
  a4 := Tryz.isAgg4
  z4 := Tryz.sizeOf4
  v4 := Tryz.zeroValue4
  t22 := Tryz.underlying23
  a22 := Tryz.isAgg23
  z22 := Tryz.sizeOf23
  v22 := Tryz.zeroValue23 }
def Tryz.bsI_ren : Go.Shelf.Ren := ⟨fun | 25 => 121 | 31 => 110 | 32 => 135 | 37 => 92 | n => n, fun | 0 => 0 | 3 => 3 | 4 => 4 | 22 => 23 | 40 => 124 | n => n, fun | n => n⟩
theorem Tryz.bsI : Go.Proofs.Lays2.n25 Tryz.prog Tryz.bsI_ren := {
  mixed := by kernel_rfl
  f25 := Tryz.func121.trans (congrArg some (by kernel_rfl))
  f31 := Tryz.func110.trans (congrArg some (by kernel_rfl))
  f32 := Tryz.func135.trans (congrArg some (by kernel_rfl))
  f37 := Tryz.func92.trans (congrArg some (by kernel_rfl))
  t0 := Tryz.underlying0
  a0 := Tryz.isAgg0
  z0 := Tryz.sizeOf0
  v0 := Tryz.zeroValue0
  t3 := Tryz.underlying3
  a3 := Tryz.isAgg3
  z3 := Tryz.sizeOf3
  v3 := Tryz.zeroValue3
  t4 := Tryz.underlying4
  a4 := Tryz.isAgg4
  z4 := Tryz.sizeOf4
  v4 := Tryz.zeroValue4
  t22 := Tryz.underlying23
  a22 := Tryz.isAgg23
  z22 := Tryz.sizeOf23
  v22 := Tryz.zeroValue23
  t40 := Tryz.underlying124
  a40 := Tryz.isAgg124
  z40 := Tryz.sizeOf124
  v40 := Tryz.zeroValue124 }
end Go.Proofs

namespace Go.Proofs.YtonoadjmglkhaaaGreat.Av
open Go.RowKit Go.Proofs.YtonoadjmglkhaaaGreat Go.Proofs.YtonoadjmglkhaaaGreat.Rw Go.Proofs.YtonoadjmglkhaaaGreat.Nm Go.Proofs.YtonoadjmglkhaaaGreat.Pr Go.Proofs.YtonoadjmglkhaaaGreat.Bk Go.Sort

theorem put_take {α : Type} [Inhabited α] (enc : α → Value) (d : Array α) (cur : Array Value) (h : d.size ≤ cur.size) : (putCells enc 0 d cur).toList.take d.size = d.toList.map enc := by
  apply List.ext_getElem?
  intro j
  rw [List.getElem?_take]
  by_cases hj : j < d.size
  · have hc : j < cur.size := by omega
    simp [putCells, hj, hc]
  · simp [hj]
/-- A row of one's own, behind a sort. -/
theorem own_sorted {α β : Type} [Inhabited β] {E : Ek α} (K : E.Ok) {w : World} {B g cap : Nat} {l l' : List α} (h : Own E w B (.slice (some ⟨g, 0, none⟩) l.length cap) l) (enc : β → Value) (d : Array β) (hd : d.toList.map enc = flat E l') (hl : l'.length = l.length) (n : Nat) (os : Array Obj) :
    Own E (grow (putRow enc (Sort.ahead w n) g 0 d) os) B (.slice (some ⟨g, 0, none⟩) l.length cap) l' ∧ w.grownBy (grow (putRow enc (Sort.ahead w n) g 0 d) os) (some g) := by
  have hds : d.size = l.length * E.n := by
    rw [← hl, ← flat_length K l', ← hd]
    simp
  rcases own_open h with ⟨e, _⟩ | ⟨g', cap', cur, e, h1, h2, h3, h4, h5, h6⟩
  · cases e
  obtain ⟨rfl, rfl⟩ : g = g' ∧ cap = cap' := by simpa using e
  have hlt := lt_of_heap h2
  have hb : (grow (putRow enc (Sort.ahead w n) g 0 d) os).heap[g]? = some (.cells (putCells enc 0 d cur) E.t (0, 0)) := by
    rw [heap_grow_old _ _ (by simp [putRow, mapBlock, Sort.ahead]; exact hlt)]
    unfold Box at h2
    simp only [putRow, mapBlock, Sort.ahead, Array.getElem?_modify, if_true, h2]
    rfl
  have hfit : d.size ≤ cur.size := by
    rw [hds, h5]
    exact Nat.mul_le_mul_right _ h3
  refine ⟨⟨by rw [flat_length K], Or.inr ⟨g, cap, _, by rw [hl], h1, hb, by rw [hl]; exact h3, h4, by simp [putCells]; exact h5, ?_⟩⟩, ⟨rfl, rfl, rfl, by simp [putRow, mapBlock, Sort.ahead], fun k hk hne => ?_⟩⟩
  · rw [hl, ← hds, put_take enc d cur hfit, hd]
  · rw [heap_grow_old _ _ (by simp [putRow, mapBlock, Sort.ahead]; exact hk)]
    have hkg : g ≠ k := fun e => hne (by rw [e])
    simp [putRow, mapBlock, Sort.ahead, Array.getElem?_modify, hkg]
theorem holds_own {α : Type} {E : Ek α} {w : World} {B g cap : Nat} {l : List α} (K : E.Ok) {β : Type} [Inhabited β] (enc : β → Value) (d : Array β) (hd : d.toList.map enc = flat E l) (h : Own E w B (.slice (some ⟨g, 0, none⟩) l.length cap) l) : Holds enc w g 0 d ∧ g < w.heap.size := by
  rcases own_open h with ⟨e, _⟩ | ⟨g', cap', cur, e, h1, h2, h3, h4, h5, h6⟩
  · cases e
  obtain ⟨rfl, rfl⟩ : g = g' ∧ cap = cap' := by simpa using e
  refine ⟨fun j hj => ?_, h2.lt⟩
  rw [Nat.zero_add]
  refine ⟨?_, h2.fr j⟩
  rw [h2.cell j]
  have hsz : d.size = l.length * E.n := by
    rw [← flat_length K l, ← hd]
    simp
  have h7 : (cur.toList.take (l.length * E.n))[j]? = (d.toList.map enc)[j]? := by rw [h6, hd]
  rw [List.getElem?_take, if_pos (by omega)] at h7
  rw [Array.getElem?_toList] at h7
  rw [h7, List.getElem?_map, Array.getElem?_toList, getElem!_pos d j hj, Array.getElem?_eq_getElem hj]
  rfl
theorem sortI_any (w : World) (B : Nat) (v : Value) (l : List Int) (h : OwnI w B v l) (hlen : l.length ≤ 900) : Calls Tryz.prog 23 #[v] w fun e w' => e = .returned (.tuple #[]) ∧ ∃ l' : List Int, OwnI w' B v l' ∧ l'.Perm l ∧ l'.Pairwise (· ≤ ·) ∧ w.grownBy w' v.ownBlock := by
  rcases own_open h with ⟨rfl, rfl⟩ | ⟨g, cap, cur, rfl, h1, h2, h3, h4, h5, h6⟩
  · have hc := Any.slices_Sort_int_none Tryz.sortI none 0 w
    refine Calls.mono hc ?_
    rintro e w' ⟨rfl, rfl⟩
    exact ⟨rfl, [], h, List.Perm.refl _, List.Pairwise.nil, Rw.grown_refl _ _⟩
  · obtain ⟨hh, hlt⟩ := holds_own Nm.okI (Value.int .i64) l.toArray (by rw [flatI]) h
    have hc := Any.slices_Sort_int Tryz.sortI g 0 cap l w hh hlt (by omega)
    refine Calls.mono hc ?_
    rintro e w' ⟨rfl, n, os, rfl⟩
    have hs := own_sorted Nm.okI (l' := l.mergeSort fun x y => decide (x ≤ y)) h (Value.int .i64) (l.mergeSort fun x y => decide (x ≤ y)).toArray (by rw [flatI]) (List.length_mergeSort l) n os
    refine ⟨rfl, _, hs.1, List.mergeSort_perm _ _, ?_, hs.2⟩
    have hp := List.pairwise_mergeSort (le := fun x y : Int => decide (x ≤ y)) (fun a b c h1 h2 => by simp at h1 h2 ⊢; omega) (fun a b => by simp; omega) l
    exact hp.imp (fun {a b} hab => by simpa using hab)
theorem cpt_step (d : Array Int) (n : Nat) (hs : ∀ i j, i ≤ j → j < n → d[i]! ≤ d[j]!) : ∀ m, m ≤ n → (∀ x ∈ Lib.compactUpTo d m, ∃ j, j < m ∧ d[j]! = x) ∧ (∀ j, j < m → d[j]! ∈ Lib.compactUpTo d m) ∧ (Lib.compactUpTo d m).Pairwise (· < ·)
  | 0, _ => ⟨fun x h => by simp [Lib.compactUpTo] at h, fun j h => by omega, by simp [Lib.compactUpTo]⟩
  | m + 1, hm => by
    obtain ⟨h1, h2, h3⟩ := cpt_step d n hs m (by omega)
    rw [Lib.compactUpTo_succ]
    cases hk : Lib.keeps d m with
    | false =>
      simp only [Bool.false_eq_true, if_false, List.append_nil]
      have hk' : m ≠ 0 ∧ d[m]! = d[m - 1]! := by
        have h := of_decide_eq_false hk
        rw [not_or] at h
        exact ⟨h.1, Classical.not_not.1 h.2⟩
      refine ⟨fun x hx => ?_, fun j hj => ?_, h3⟩
      · obtain ⟨j, hj, e⟩ := h1 x hx
        exact ⟨j, by omega, e⟩
      · rcases Nat.lt_or_ge j m with h | h
        · exact h2 j h
        · obtain rfl : j = m := by omega
          rw [hk'.2]
          exact h2 _ (by omega)
    | true =>
      simp only [if_true]
      have hk' : m = 0 ∨ d[m]! ≠ d[m - 1]! := of_decide_eq_true hk
      refine ⟨fun x hx => ?_, fun j hj => ?_, ?_⟩
      · rcases List.mem_append.1 hx with h | h
        · obtain ⟨j, hj, e⟩ := h1 x h
          exact ⟨j, by omega, e⟩
        · exact ⟨m, by omega, (List.mem_singleton.1 h).symm⟩
      · rcases Nat.lt_or_ge j m with h | h
        · exact List.mem_append_left _ (h2 j h)
        · obtain rfl : j = m := by omega
          exact List.mem_append_right _ (by simp)
      · rw [List.pairwise_append]
        refine ⟨h3, List.pairwise_singleton _ _, fun a ha b hb => ?_⟩
        obtain ⟨j, hj, rfl⟩ := h1 a ha
        rw [List.mem_singleton.1 hb]
        have a1 := hs j (m - 1) (by omega) (by omega)
        have a2 := hs (m - 1) m (by omega) (by omega)
        rcases hk' with h | h
        · omega
        · omega
theorem compact_is (l : List Int) (hs : l.Pairwise (· ≤ ·)) : (Lib.compact l).Pairwise (· < ·) ∧ (∀ x, x ∈ Lib.compact l ↔ x ∈ l) ∧ (Lib.compact l).length ≤ l.length := by
  have hd : ∀ i j, i ≤ j → j < l.length → l.toArray[i]! ≤ l.toArray[j]! := by
    intro i j hij hj
    rw [getElem!_pos l.toArray i (by simp; omega), getElem!_pos l.toArray j (by simpa using hj)]
    rcases Nat.lt_or_ge i j with h | h
    · have := List.pairwise_iff_getElem.1 hs i j (by omega) hj h
      simpa using this
    · obtain rfl : i = j := by omega
      exact Int.le_refl _
  obtain ⟨h1, h2, h3⟩ := cpt_step l.toArray l.length hd l.length (Nat.le_refl _)
  refine ⟨h3, fun x => ⟨fun hx => ?_, fun hx => ?_⟩, ?_⟩
  · obtain ⟨j, hj, rfl⟩ := h1 x hx
    rw [getElem!_pos l.toArray j (by simpa using hj)]
    simp
  · obtain ⟨j, hj, rfl⟩ := List.mem_iff_getElem.1 hx
    have := h2 j hj
    rw [getElem!_pos l.toArray j (by simpa using hj)] at this
    simpa [Lib.compact] using this
  · unfold Lib.compact Lib.compactUpTo
    rw [List.length_map]
    exact Nat.le_trans (List.length_filter_le _ _) (by simp)
theorem cptI_any (w : World) (B : Nat) (v : Sl) (l : List Int) (h : OwnI w B (slv v) l) (hs : l.Pairwise (· ≤ ·)) (hlen : l.length ≤ 900) : Calls Tryz.prog 24 #[slv v] w fun e w' => (∃ v' : Sl, e = .returned (slv v') ∧ ∃ l' : List Int, OwnI w' B (slv v') l' ∧ l'.Pairwise (· < ·) ∧ ∀ x, x ∈ l' ↔ x ∈ l) ∧ w.grownBy w' (slv v).ownBlock := by
  obtain ⟨vo, vn, vc⟩ := v
  rcases own_open h with ⟨h0, rfl⟩ | ⟨g, cap, cur, h0, h1, h2, h3, h4, h5, h6⟩
  · obtain ⟨rfl, rfl, rfl⟩ : vo = none ∧ vn = 0 ∧ vc = 0 := by simpa using h0
    have hc := Any.slices_Compact_int_empty Tryz.cptI none 0 w
    refine Calls.mono hc ?_
    rintro e w' ⟨rfl, rfl⟩
    exact ⟨⟨(none, 0, 0), rfl, [], h, List.Pairwise.nil, fun _ => Iff.rfl⟩, Rw.grown_refl _ _⟩
  · obtain ⟨rfl, rfl, rfl⟩ : vo = some ⟨g, 0, none⟩ ∧ vn = l.length ∧ vc = cap := by simpa using h0
    obtain ⟨hh, hlt⟩ := holds_own Nm.okI (Value.int .i64) l.toArray (by rw [flatI]) h
    have hc := Any.slices_Compact_int Tryz.cptI g 0 vc l w hh (by omega) h3
    obtain ⟨c1, c2, c3⟩ := compact_is l hs
    refine Calls.mono hc ?_
    rintro e w' ⟨rfl, n, rfl⟩
    have ht := own_sorted Nm.okI (l' := Lib.compact l ++ List.replicate (l.length - (Lib.compact l).length) 0) h (Value.int .i64) (Lib.compact l ++ List.replicate (l.length - (Lib.compact l).length) 0).toArray (by rw [flatI]) (by rw [List.length_append, List.length_replicate]; omega) n #[]
    have hg : grow (putRow (Value.int .i64) (Sort.ahead w n) g 0 (Lib.compact l ++ List.replicate (l.length - (Lib.compact l).length) 0).toArray) #[] = putRow (Value.int .i64) (Sort.ahead w n) g 0 (Lib.compact l ++ List.replicate (l.length - (Lib.compact l).length) 0).toArray := grow_empty _
    rw [hg] at ht
    refine ⟨⟨(some ⟨g, 0, none⟩, (Lib.compact l).length, vc), rfl, Lib.compact l, ?_, c1, c2⟩, ht.2⟩
    rcases own_open ht.1 with ⟨e, _⟩ | ⟨g', cap', cur', e, k1, k2, k3, k4, k5, k6⟩
    · cases e
    · obtain ⟨rfl, _, rfl⟩ : g = g' ∧ l.length = _ ∧ vc = cap' := by simpa using e
      refine own_shut Nm.okI rfl k1 k2 (Nat.le_trans c3 h3) k4 k5 ?_
      have k7 := congrArg (List.take ((Lib.compact l).length * EI.n)) k6
      rw [List.take_take, flat_take Nm.okI, Nat.min_eq_left (Nat.mul_le_mul_right _ (by rw [List.length_append]; omega)), List.take_left'] at k7
      · exact k7
      · rfl
end Go.Proofs.YtonoadjmglkhaaaGreat.Av
