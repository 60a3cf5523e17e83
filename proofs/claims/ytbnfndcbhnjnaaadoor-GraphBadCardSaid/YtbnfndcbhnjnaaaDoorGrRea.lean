/-
  How far each broker is, level by level, as the document's own search has it; a row of numbers that is stored into. No program's function in it.
-/
import Derived.Test.YtbnfndcbhnjnaaaDoorGdNM
import Derived.Test.YtbnfndcbhnjnaaaDoorBk
namespace Go.Proofs.YtbnfndcbhnjnaaaDoor.Gr
open Go.RowKit Go.Sort Go.Proofs.YtbnfndcbhnjnaaaDoor Go.Proofs.YtbnfndcbhnjnaaaDoor.Rw

def arr (r : List Int) : Array Value := (r.map (fun n => Value.int .i64 n)).toArray
theorem arr_size (r : List Int) : (arr r).size = r.length := by simp [arr]
theorem arr_get (r : List Int) (k : Nat) : (arr r)[k]? = (r[k]?).map fun n => .int .i64 n := by simp [arr]
theorem arr_set (r : List Int) (k : Nat) (z : Int) : (arr r).setIfInBounds k (.int .i64 z) = arr (r.set k z) := by simp [arr, List.map_set]
theorem box_set {W : World} {g : Nat} {r : List Int} (h : Box W g (arr r) 3) (k : Nat) (z : Int) : Box (W.setCell ⟨g, k, none⟩ (.int .i64 z)) g (arr (r.set k z)) 3 := by
  have := heap_setCell_same W g k (arr r) 3 (.int .i64 z) h
  rw [arr_set] at this
  exact this
theorem box_get {W : World} {g : Nat} {r : List Int} (h : Box W g (arr r) 3) {k : Nat} {z : Int} (hk : r[k]? = some z) : W.cell? ⟨g, k, none⟩ = some (.int .i64 z) := by
  rw [h.cell, arr_get, hk]
  rfl
theorem make_ints (w : World) (N : Nat) (hN : N ≤ 1000) : ∃ w', (Instr.makeSlice 30 (.int .i64 N) (.int .i64 N)).run Tryd.prog w = .ok (.slice (some ⟨w.heap.size, 0, none⟩) N N) w' ∧ Box w' w.heap.size (arr (List.replicate N 0)) 3 ∧ Below w.heap.size w w' := by
  obtain ⟨i, i1, i2, i3, i4⟩ := okI.info
  obtain ⟨w', h1, h2, h3⟩ := run_make_full (P := Tryd.prog) w w.heap.size 30 3 i _ 1 Tryd.underlying30 i1 i2 i3 .i64 .i64 N (by rw [i4]; show 8 * N ≤ _; omega) (by unfold maxLen; omega) (Nat.le_refl _)
  refine ⟨w', h1, ?_, (Below.refl _ _).grown h3 (Nat.le_refl _) (fun j hj => by cases hj)⟩
  obtain ⟨_, h⟩ := h2
  rcases h with ⟨e, _⟩ | ⟨g', cap, cur, e, a1, a2, a3, a4, a5, a6⟩
  · cases e
  · obtain ⟨rfl, rfl⟩ : w.heap.size = g' ∧ N = cap := by simpa using e
    have hc : cur = arr (List.replicate N 0) := by
      apply Array.ext'
      rw [← List.take_length (l := cur.toList), Array.length_toList, a5]
      rw [a6]
      have hz : (Value.int .i64 0).cells = #[.int .i64 0] := rfl
      simp [arr, madeCells, EI, hz, Nat.mod_one]
      rw [List.map_const', List.length_range]
    rw [← hc]
    exact a2
theorem Kp.set {B g : Nat} (W : World) (k : Nat) (v : Value) : Kp B g W (W.setCell ⟨g, k, none⟩ v) :=
  ⟨rfl, rfl, rfl, by simp, fun j _ hj => RowKit.Below.heap_setCell _ _ _ _ hj⟩
theorem Kp.mono {B B' g : Nat} {W W' : World} (h : Kp B g W W') (hB : B' ≤ B) : Kp B' g W W' := ⟨h.os, h.tape, h.output, h.size, fun k h1 h2 => h.block k (by omega) h2⟩
theorem Kp.box {B g b : Nat} {W W' : World} {cs : Array Value} {t : TypeId} (h : Kp B g W W') (hb : Box W b cs t) (hB : b < B) (hne : b ≠ g) : Box W' b cs t := (h.block b hB hne).trans hb
theorem Kp.of_bel {B g : Nat} {W W' : World} (h : Below W.heap.size W W') (hB : B ≤ W.heap.size) : Kp B g W W' := Kp.of_below (h.mono hB)
/-- The levels up to nn are told. -/
def LvP (ls : List Lk) (a : Int) (N nn : Nat) (r : List Int) : Prop := r.length = N ∧ ∀ x : Nat, x < N → (r[x]? = some (-1) ∧ ∀ k, k ≤ nn → ¬ Wk ls k a x) ∨ ∃ d : Nat, d ≤ nn ∧ r[x]? = some (d : Int) ∧ DistIs ls a x d
/-- The level behind is being told: these ways are looked at. -/
def LvQ (ls : List Lk) (a : Int) (N nn : Nat) (r : List Int) (ds : List Lk) : Prop := r.length = N ∧ ∀ x : Nat, x < N → (r[x]? = some (-1) ∧ (∀ k, k ≤ nn → ¬ Wk ls k a x) ∧ ∀ u, (u, (x : Int)) ∈ ds → ¬ DistIs ls a u nn) ∨ ∃ d : Nat, d ≤ nn + 1 ∧ r[x]? = some (d : Int) ∧ DistIs ls a x d
theorem LvP.start {ls : List Lk} {a N : Nat} {r : List Int} (hr : r.length = N) (hm : ∀ x : Nat, x < N → r[x]? = some (-1)) (ha : a < N) : LvP ls a N 0 (r.set a 0) := by
  refine ⟨by simpa using hr, fun x hx => ?_⟩
  by_cases e : x = a
  · subst e
    exact Or.inr ⟨0, Nat.le_refl _, by rw [List.getElem?_set_self (by omega)]; rfl, rfl, fun k _ => Nat.zero_le _⟩
  · refine Or.inl ⟨by rw [List.getElem?_set_ne (Ne.symm e)]; exact hm x hx, fun k hk hw => ?_⟩
    obtain rfl : k = 0 := by omega
    have : (a : Int) = x := hw
    omega
theorem LvP.begin {ls : List Lk} {a : Int} {N nn : Nat} {r : List Int} (h : LvP ls a N nn r) : LvQ ls a N nn r [] := by
  refine ⟨h.1, fun x hx => ?_⟩
  rcases h.2 x hx with ⟨h1, h2⟩ | ⟨d, h1, h2, h3⟩
  · exact Or.inl ⟨h1, h2, fun u hu => by cases hu⟩
  · exact Or.inr ⟨d, by omega, h2, h3⟩
theorem LvQ.done {ls : List Lk} {a : Int} {N nn : Nat} {r : List Int} (_hok : Lok N ls) (_ha : 0 ≤ a ∧ a < N) (h : LvQ ls a N nn r (bothL ls)) : LvP ls a N (nn + 1) r := by
  refine ⟨h.1, fun x hx => ?_⟩
  rcases h.2 x hx with ⟨h1, h2, h3⟩ | ⟨d, h1, h2, h3⟩
  · refine Or.inl ⟨h1, fun k hk hw => ?_⟩
    rcases Nat.lt_or_ge nn k with h4 | h4
    · obtain rfl : k = nn + 1 := by omega
      obtain ⟨c, hc, hcx⟩ := hw
      obtain ⟨e, he, hle⟩ := dist_of hc
      rcases Nat.lt_or_ge e nn with h5 | h5
      · exact h2 (e + 1) (by omega) ⟨c, he.1, hcx⟩
      · obtain rfl : e = nn := by omega
        exact h3 c (mem_both.2 hcx) he
    · exact h2 k h4 hw
  · exact Or.inr ⟨d, h1, h2, h3⟩
theorem LvQ.at_ {ls : List Lk} {a : Int} {N nn : Nat} {r : List Int} {ds : List Lk} (h : LvQ ls a N nn r ds) (x : Nat) (hx : x < N) : ∃ z, r[x]? = some z ∧ -1 ≤ z := by
  rcases h.2 x hx with ⟨h1, _⟩ | ⟨d, _, h1, _⟩
  · exact ⟨_, h1, by omega⟩
  · exact ⟨_, h1, by omega⟩
theorem LvQ.skip {ls : List Lk} {a : Int} {N nn : Nat} {r : List Int} {ds : List Lk} (h : LvQ ls a N nn r ds) {u v : Nat} {zu zv : Int} (hu : u < N) (hzu : r[u]? = some zu) (hzv : r[v]? = some zv) (hno : ¬ (zu = nn ∧ zv < 0)) : LvQ ls a N nn r (ds ++ [((u : Int), (v : Int))]) := by
  refine ⟨h.1, fun x hx => ?_⟩
  rcases h.2 x hx with ⟨h1, h2, h3⟩ | h1
  · refine Or.inl ⟨h1, h2, fun y hy hd => ?_⟩
    rcases List.mem_append.1 hy with h4 | h4
    · exact h3 y h4 hd
    · obtain ⟨rfl, e⟩ : y = u ∧ (x : Int) = v := by simpa using h4
      obtain rfl : x = v := by omega
      rw [h1] at hzv
      injection hzv with hzv
      rcases h.2 u hu with ⟨h5, h6, _⟩ | ⟨d, h5, h6, h7⟩
      · exact h6 nn (Nat.le_refl _) hd.1
      · have := h7.uniq hd
        subst this
        rw [h6] at hzu
        injection hzu with hzu
        exact hno ⟨hzu.symm, by omega⟩
  · exact Or.inr h1
theorem LvQ.put {ls : List Lk} {a : Int} {N nn : Nat} {r : List Int} {ds : List Lk} (h : LvQ ls a N nn r ds) {u v : Nat} {zu zv : Int} (hu : u < N) (hv : v < N) (hzu : r[u]? = some zu) (hzv : r[v]? = some zv) (h1 : zu = nn) (h2 : zv < 0) (hadj : Adj ls u v) : LvQ ls a N nn (r.set v ((nn : Int) + 1)) (ds ++ [((u : Int), (v : Int))]) := by
  have hdu : DistIs ls a u nn := by
    rcases h.2 u hu with ⟨h5, _, _⟩ | ⟨d, h5, h6, h7⟩
    · rw [h5] at hzu
      injection hzu with hzu
      omega
    · rw [h6] at hzu
      injection hzu with hzu
      obtain rfl : d = nn := by omega
      exact h7
  have hdv : DistIs ls a v (nn + 1) := by
    refine ⟨⟨u, hdu.1, hadj⟩, fun k hk => ?_⟩
    rcases h.2 v hv with ⟨h5, h6, _⟩ | ⟨d, h5, h6, h7⟩
    · rcases Nat.lt_or_ge nn k with h8 | h8
      · omega
      · exact absurd hk (h6 k h8)
    · rw [h6] at hzv
      injection hzv with hzv
      omega
  refine ⟨by simpa using h.1, fun x hx => ?_⟩
  by_cases e : x = v
  · subst e
    exact Or.inr ⟨nn + 1, Nat.le_refl _, by rw [List.getElem?_set_self (by rw [h.1]; exact hx)]; rfl, hdv⟩
  · rw [List.getElem?_set_ne (Ne.symm e)]
    rcases h.2 x hx with ⟨h5, h6, h7⟩ | h5
    · refine Or.inl ⟨h5, h6, fun y hy hd => ?_⟩
      rcases List.mem_append.1 hy with h8 | h8
      · exact h7 y h8 hd
      · obtain ⟨_, e2⟩ : y = u ∧ (x : Int) = v := by simpa using h8
        exact e (by omega)
    · exact Or.inr h5
theorem LvP.far {ls : List Lk} {a : Int} {N : Nat} {r : List Int} (hok : Lok N ls) (ha : 0 ≤ a ∧ a < (N : Int)) (h : LvP ls a N N r) (x : Nat) (hx : x < N) : ∃ z, r[x]? = some z ∧ FarIs N ls a x z := by
  rcases h.2 x hx with ⟨h1, h2⟩ | ⟨d, _, h1, h2⟩
  · refine ⟨_, h1, Or.inr ⟨rfl, fun _ k hk => ?_⟩⟩
    obtain ⟨d, hd, _⟩ := dist_of hk
    have := hd.lt hok ha
    exact h2 d (by omega) hd.1
  · exact ⟨_, h1, Or.inl ⟨ha, d, rfl, h2⟩⟩
end Go.Proofs.YtbnfndcbhnjnaaaDoor.Gr
