/-
  The library's two sorts, at rows of one's own: the same elements, rising. Conditions: lists no longer than a machine holds.
-/
import Derived.Test.YtbnfndcbhnjnaaaDoorGdShelf
import Derived.Test.YtbnfndcbhnjnaaaDoorBo
import Derived.Shelf.SlSortCmp.NoneTotal
namespace Go.Proofs.YtbnfndcbhnjnaaaDoor.Gr
open Go.RowKit Go.Proofs.YtbnfndcbhnjnaaaDoor Go.Proofs.YtbnfndcbhnjnaaaDoor.Rw Go.Sort

theorem holds_own {α : Type} {E : Ek α} {w : World} {B g cap : Nat} {l : List α} (K : E.Ok) {β : Type} [Inhabited β] (enc : β → Value) (d : Array β) (hd : d.toList.map enc = flat E l) (h : Own E w B (.slice (some ⟨g, 0, none⟩) l.length cap) l) : Holds enc w g 0 d ∧ g < w.heap.size := by
  rcases own_open h with ⟨e, _⟩ | ⟨g', cap', cur, e, h1, h2, h3, h4, h5, h6⟩
  · cases e
  obtain ⟨rfl, rfl⟩ : g = g' ∧ cap = cap' := by simpa using e
  refine ⟨fun j hj => ?_, h2.lt⟩
  rw [Nat.zero_add]
  refine ⟨?_, h2.fr j⟩
  rw [h2.cell j]
  have hsz : d.size = l.length * E.n := by
    rw [← flat_length K l, ← hd]
    simp
  have h7 : (cur.toList.take (l.length * E.n))[j]? = (d.toList.map enc)[j]? := by rw [h6, hd]
  rw [List.getElem?_take, if_pos (by omega)] at h7
  rw [Array.getElem?_toList] at h7
  rw [h7, List.getElem?_map, Array.getElem?_toList, getElem!_pos d j hj, Array.getElem?_eq_getElem hj]
  rfl
theorem sortI_ok : SortOkI := by
  intro w B v l h hlen
  rcases own_open h with ⟨rfl, rfl⟩ | ⟨g, cap, cur, rfl, h1, h2, h3, h4, h5, h6⟩
  · have hc := Any.slices_Sort_int_none Tryd.sortI none 0 w
    refine Calls.mono hc ?_
    rintro e w' ⟨rfl, rfl⟩
    exact ⟨rfl, [], h, List.Perm.refl _, List.Pairwise.nil, grown_refl _ _⟩
  · obtain ⟨hh, hlt⟩ := holds_own okI (Value.int .i64) l.toArray (by rw [flatI]) h
    have hc := Any.slices_Sort_int Tryd.sortI g 0 cap l w hh hlt (by omega)
    refine Calls.mono hc ?_
    rintro e w' ⟨rfl, n, os, rfl⟩
    have hs := own_sorted okI (l' := l.mergeSort fun x y => decide (x ≤ y)) h (Value.int .i64) (l.mergeSort fun x y => decide (x ≤ y)).toArray (by rw [flatI]) (List.length_mergeSort l) n os
    refine ⟨rfl, _, hs.1, List.mergeSort_perm _ _, ?_, hs.2⟩
    have hp := List.pairwise_mergeSort (le := fun x y : Int => decide (x ≤ y)) (fun a b c h1 h2 => by simp at h1 h2 ⊢; omega) (fun a b => by simp; omega) l
    exact hp.imp (fun {a b} hab => by simpa using hab)
theorem flatK_toList (d : Array Lk) : (flatK cells2 2 d).toList = flat EK d.toList := by
  apply List.ext_getElem?
  intro j
  have hs : (flatK cells2 2 d).size = d.size * 2 := size_flatK _ _ _
  have hl : (flat EK d.toList).length = d.size * 2 := by
    have := flat_length okK d.toList
    rw [this]
    simp [EK]
  by_cases hj : j < d.size * 2
  · have h1 : j / 2 < d.size := by omega
    have h2 := flat_at okK d.toList (j / 2) d[j / 2] (by simp [h1]) (j % 2) (by show j % 2 < 2; omega)
    have h3 : j / 2 * EK.n + j % 2 = j := by show j / 2 * 2 + j % 2 = j; omega
    rw [h3] at h2
    rw [h2, Array.getElem?_toList, Array.getElem?_eq_getElem (by omega)]
    have h4 := get_flatK cells2 2 d j hj
    rw [getElem!_pos (flatK cells2 2 d) j (by rw [hs]; exact hj), getElem!_pos d (j / 2) h1] at h4
    rw [h4]
    have h5 : j % 2 < (cells2 d[j / 2]).length := by show j % 2 < 2; omega
    show _ = (cells2 d[j / 2])[j % 2]?
    rw [List.getElem?_eq_getElem h5, getElem!_pos (cells2 d[j / 2]) (j % 2) h5]
  · rw [List.getElem?_eq_none (by simp [hs]; omega), List.getElem?_eq_none (by omega)]
theorem ltL (x y : Lk) : ltOf cmpL x y = true ↔ LexLt x y := by
  obtain ⟨a, b⟩ := x
  obtain ⟨c, d⟩ := y
  unfold ltOf cmpL orI cmpI LexLt
  simp only [decide_eq_true_eq]
  by_cases h1 : a < c
  · simp [h1]
  · by_cases h2 : c < a
    · simp [h1, h2]; omega
    · have e : a = c := by omega
      by_cases h3 : b < d
      · simp [h3, e]
      · by_cases h4 : d < b
        · simp [h3, h4, e]
        · simp [h3, h4, e]
theorem ltL_false (x y : Lk) : ltOf cmpL x y = false ↔ ¬ LexLt x y := by rw [← ltL]; simp
theorem swoL : SWO (ltOf cmpL) where
  irrefl x := by rw [ltL_false]; exact lex_irr x
  trans x y z h1 h2 := by
    rw [ltL] at *
    unfold LexLt at *
    omega
  ntrans x y z h1 h2 := by
    rw [ltL_false] at *
    unfold LexLt at *
    omega
theorem enterOrder (args : Array Value) (w : World) : (callFunc 33 args).run Tryd.prog w = .ok (.enter 33 args) w := call_fn Tryd.func33 rfl rfl args w
theorem sortL_ok : SortOkL := by
  intro w B v l h hlen
  rcases own_open h with ⟨rfl, rfl⟩ | ⟨g, cap, cur, rfl, h1, h2, h3, h4, h5, h6⟩
  · have hc := AnyF.slices_SortFunc_none Tryd.sortL none 0 (.func (.func 33) #[] #[]) w
    refine Calls.mono hc ?_
    rintro e w' ⟨rfl, rfl⟩
    exact ⟨rfl, [], h, List.Perm.refl _, List.Pairwise.nil, grown_refl _ _⟩
  · obtain ⟨hh, hlt⟩ := holds_own okK id (flatK cells2 2 l.toArray) (by rw [List.map_id, flatK_toList]) h
    have hc := AnyQ.slices_SortFunc Tryd.sortL 2 Tryd.isAgg22 Tryd.sizeOf22 cells2 (fun _ => rfl) (fun x v hv => okK.one x v hv) cmpL swoL 33 #[] g 0 cap l.toArray w enterOrder (fun _ _ _ _ x y => order_any x y _) hh hlt (by simp; omega)
    refine Calls.mono hc ?_
    rintro e w' ⟨rfl, d', n, os, hp, hs, rfl⟩
    obtain ⟨hp1, _, hp3⟩ := hp
    have hps : d'.toList.Perm l := by
      have e1 : (d'.extract 0 l.toArray.size) = d' := by rw [← hp1]; simp
      have e2 : (l.toArray.extract 0 l.toArray.size) = l.toArray := by simp
      rw [e1, e2] at hp3
      simpa using hp3
    have hl : d'.toList.length = l.length := hps.length_eq
    have hso := own_sorted okK (l' := d'.toList) h id (flatK cells2 2 d') (by rw [List.map_id, flatK_toList]) hl n os
    refine ⟨rfl, _, hso.1, hps, ?_, hso.2⟩
    rw [List.pairwise_iff_getElem]
    intro i j hi hj hij
    have hi' : i < d'.size := by simpa using hi
    have hj' : j < d'.size := by simpa using hj
    have := hs i j (Nat.zero_le _) hij (by rw [hp1] at hj'; exact hj')
    rw [getElem!_pos d' j hj', getElem!_pos d' i hi', ltL_false] at this
    simpa using this
end Go.Proofs.YtbnfndcbhnjnaaaDoor.Gr
