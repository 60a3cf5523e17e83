/-
  A row of numbers of one's own that may begin within its block: how it is appended to, and cut at its front. No program's function in it. Condition: lists no longer than a machine holds.
-/
import Derived.Test.YtbnfndcbhnjnaaaDoorBk
import Derived.Test.YtbnfndcbhnjnaaaDoorBb
import Derived.Deep.AppendSrc
namespace Go.Proofs.YtbnfndcbhnjnaaaDoor.Gr
open Go.RowKit Go.Proofs.YtbnfndcbhnjnaaaDoor Go.Proofs.YtbnfndcbhnjnaaaDoor.Rw

def QI (W : World) (B : Nat) (v : Value) (l : List Int) : Prop := (v = .slice none 0 0 ∧ l = []) ∨ ∃ (g off cap : Nat) (cur : Array Value), v = .slice (some ⟨g, off, none⟩) l.length cap ∧ B ≤ g ∧ Box W g cur 3 ∧ l.length ≤ cap ∧ cap ≤ maxLen ∧ off + cap ≤ cur.size ∧ ∀ (j : Nat) (x : Int), l[j]? = some x → cur[off + j]? = some (.int .i64 x)
theorem QI.of_own {W : World} {B : Nat} {v : Value} {l : List Int} (h : OwnI W B v l) : QI W B v l := by
  rcases own_open h with h1 | ⟨g, cap, cur, h1, h2, h3, h4, h5, h6, h7⟩
  · exact Or.inl h1
  · refine Or.inr ⟨g, 0, cap, cur, h1, h2, h3, h4, h5, by rw [h6]; show 0 + cap ≤ cap * 1; omega, fun j x hj => ?_⟩
    have hj' := (List.getElem?_eq_some_iff.1 hj).1
    have h8 : (cur.toList.take (l.length * EI.n))[j]? = (l.map (fun n => Value.int .i64 n))[j]? := by rw [h7, flatI]
    rw [List.getElem?_take, if_pos (by show j < l.length * 1; omega), Array.getElem?_toList] at h8
    rw [Nat.zero_add, h8, List.getElem?_map, hj]
    rfl
theorem QI.cell {W : World} {g off _cap : Nat} {cur : Array Value} {l : List Int} (hb : Box W g cur 3) (hc : ∀ (j : Nat) (x : Int), l[j]? = some x → cur[off + j]? = some (.int .i64 x)) (j : Nat) (u : Value) (hu : (l.map (fun n => Value.int .i64 n))[j]? = some u) : W.cell? ((⟨g, off, none⟩ : Addr).add j) = some u := by
  rw [List.getElem?_map] at hu
  cases hx : l[j]? with
  | none => rw [hx] at hu; cases hu
  | some x =>
    rw [hx] at hu
    have e : (⟨g, off, none⟩ : Addr).add j = ⟨g, off + j, none⟩ := by
      by_cases h0 : j = 0
      · subst h0; rw [add_zero]; rfl
      · rw [add_pos _ _ h0]
    rw [e, hb.cell, hc j x hx]
    exact hu
theorem QI.row {W : World} {B : Nat} {v : Value} {l : List Int} (h : QI W B v l) : RowI W v l := by
  rcases h with ⟨h1, h2⟩ | ⟨g, off, cap, cur, h1, h2, h3, h4, h5, h6, h7⟩
  · exact Or.inl ⟨h2, h1⟩
  · exact Or.inr ⟨_, cap, h1, h4, h5, fun j u hu => QI.cell (_cap := cap) h3 h7 j u (by rw [flatI] at hu; exact hu)⟩
theorem QI.on {W W' : World} {B : Nat} {v : Value} {l : List Int} (h : QI W B v l) (hb : Below W.heap.size W W') : QI W' B v l := by
  rcases h with h1 | ⟨g, off, cap, cur, h1, h2, h3, h4⟩
  · exact Or.inl h1
  · exact Or.inr ⟨g, off, cap, cur, h1, h2, h3.on hb, h4⟩
theorem QI.lt {W : World} {B : Nat} {v : Value} {l : List Int} (h : QI W B v l) : ∀ k, v.ownBlock = some k → B ≤ k ∧ k < W.heap.size := by
  intro k hk
  rcases h with ⟨h1, _⟩ | ⟨g, off, cap, cur, h1, h2, h3, h4⟩
  · rw [h1] at hk; cases hk
  · rw [h1] at hk
    obtain rfl : g = k := by simpa [Value.ownBlock] using hk
    exact ⟨h2, h3.lt⟩
theorem QI.kept {W W' : World} {B : Nat} {v : Value} {l : List Int} {row : Option Nat} (h : QI W B v l) (hg : W.grownBy W' row) (hne : v.ownBlock = none ∨ v.ownBlock ≠ row) : QI W' B v l := by
  rcases h with h1 | ⟨g, off, cap, cur, h1, h2, h3, h4⟩
  · exact Or.inl h1
  · refine Or.inr ⟨g, off, cap, cur, h1, h2, ?_, h4⟩
    rw [h1] at hne
    have hne' : some g ≠ row := by
      rcases hne with h | h
      · cases h
      · exact h
    exact (hg.block g h3.lt hne').trans h3
theorem QI.ne_map {W : World} {B b : Nat} {v : Value} {l : List Int} {es : Array MapEntry} {c : Nat} (h : QI W B v l) (hb : W.heap[b]? = some (.map es c)) : v.ownBlock ≠ some b := by
  intro e
  rcases h with ⟨h1, _⟩ | ⟨g, off, cap, cur, h1, h2, h3, h4⟩
  · rw [h1] at e; cases e
  · rw [h1] at e
    obtain rfl : g = b := by simpa [Value.ownBlock] using e
    unfold Box at h3
    rw [hb] at h3
    cases h3
/-- What an append of one number leaves. -/
def AppQ (w1 : World) (B : Nat) (v : Value) (l : List Int) (x : Int) (v' : Value) (w' : World) : Prop := QI w' B v' (l ++ [x]) ∧ w1.grownBy w' v.ownBlock ∧ (v'.ownBlock = v.ownBlock ∨ ∃ g, v'.ownBlock = some g ∧ w1.heap.size ≤ g) ∧ ∃ g off n cap, v' = Value.slice (some ⟨g, off, none⟩) n cap
set_option maxRecDepth 100000 in
theorem app_q (w : World) (B : Nat) (v : Value) (l : List Int) (x : Int) (h : QI w B v l) (hl : l.length ≤ 900) (hB : B ≤ w.heap.size) :
    ∃ v' w', (Builtin.append_ #[30, 30] 30 #[v, .slice (some ⟨w.heap.size, 0, none⟩) 1 1]).run Tryd.prog (w.alloc (.cells #[.int .i64 x] 3)) = .ok v' w' ∧ AppQ (w.alloc (.cells #[.int .i64 x] 3)) B v l x v' w' := by
  obtain ⟨i, i1, i2, i3, i4⟩ := okI.info
  have hx := row_oneI w x
  have h1 : Below w.heap.size w (w.alloc (.cells #[.int .i64 x] 3)) := (Below.refl _ _).alloc (Nat.le_refl _) _
  have hs1 : (w.alloc (.cells #[.int .i64 x] 3)).heap.size = w.heap.size + 1 := by simp
  have h2 := h.on h1
  have hsrc : ∀ j u, ([.int .i64 x] : List Value)[j]? = some u → (w.alloc (.cells #[.int .i64 x] 3)).cell? ((⟨w.heap.size, 0, none⟩ : Addr).add j) = some u := by
    intro j u hj
    rcases hx with ⟨e, _⟩ | ⟨a, cap, e1, _, _, e2⟩
    · cases e
    · obtain ⟨rfl, _⟩ : (⟨w.heap.size, 0, none⟩ : Addr) = a ∧ 1 = cap := by simpa using e1
      exact e2 j u hj
  generalize w.alloc (.cells #[.int .i64 x] 3) = W at *
  rcases h2 with ⟨rfl, rfl⟩ | ⟨g, off, cap, cur, rfl, hg, hb, hlc, hcm, hfit, hc⟩
  · obtain ⟨v', w', r, o, gr⟩ := appI (w := W) W.heap.size (own_nil W W.heap.size) hx (by simp) (by simp) (Nat.le_refl _)
    refine ⟨v', w', r, ?_, gr, ?_, ?_⟩
    · have hq := QI.of_own o
      rcases hq with h3 | ⟨g, off, cap, cur, h3, h4, h5⟩
      · exact Or.inl h3
      · exact Or.inr ⟨g, off, cap, cur, h3, by omega, h5⟩
    · rcases own_open o with ⟨_, e⟩ | ⟨g, cap, cur, e, hg, _⟩
      · simp at e
      · exact Or.inr ⟨g, by rw [e]; rfl, hg⟩
    · rcases own_open o with ⟨_, e⟩ | ⟨g, cap, cur, e, hg, _⟩
      · simp at e
      · exact ⟨g, 0, _, cap, e⟩
  · have hin : i.size = 1 := i3
    have src : Src Tryd.prog i.size 30 (.slice (some ⟨w.heap.size, 0, none⟩) 1 1) 1 [.int .i64 x] W := Src.ofSlice (P := Tryd.prog) W Tryd.underlying30 ⟨w.heap.size, 0, none⟩ 1 1 [.int .i64 x] (by rw [hin]; rfl) hsrc (by intro u hu; simp at hu; rw [hu]; rfl)
    by_cases hroom : l.length + 1 ≤ cap
    · have hcell : (cur[off + l.length]?).isSome = true := by
        rw [Array.getElem?_eq_getElem (by omega)]
        rfl
      have r := run_append_room_src (P := Tryd.prog) W 30 30 30 3 i Tryd.underlying30 i1 g off l.length cap _ 1 [.int .i64 x] src hroom
        (fun j hj => by
          obtain rfl : j = 0 := by simpa using hj
          rw [hin, Nat.mul_one, Nat.add_zero, hb.cell]
          exact hcell)
        (fun j hj => hb.fr _)
      rw [hin, Nat.mul_one] at r
      refine ⟨_, _, r, Or.inr ⟨g, off, cap, cur.setIfInBounds (off + l.length) (.int .i64 x), by simp, hg, ?_, by simpa using hroom, hcm, by simpa using hfit, fun j y hj => ?_⟩, ⟨rfl, rfl, rfl, by simp [World.setCells], fun k hk hne => ?_⟩, Or.inl rfl, ⟨g, off, _, cap, rfl⟩⟩
      · have := heap_setCell_same W g (off + l.length) cur 3 (.int .i64 x) hb
        exact this
      · by_cases hjl : j < l.length
        · rw [List.getElem?_append_left hjl] at hj
          rw [Array.getElem?_setIfInBounds, if_neg (by omega)]
          exact hc j y hj
        · have : j = l.length := by
            have h9 := (List.getElem?_eq_some_iff.1 hj).1
            simp at h9
            omega
          subst this
          simp at hj
          subst hj
          rw [Array.getElem?_setIfInBounds, if_pos rfl, if_pos (by omega)]
      · exact RowKit.Below.heap_setCell _ _ _ _ (fun e => hne (by rw [e]; rfl))
    · have hold : (Builtin.firstCells i.size l.length (.slice (some ⟨g, off, none⟩) l.length cap)).run Tryd.prog W.drew = .ok (l.map (fun n => Value.int .i64 n)).toArray W.drew := by
        refine run_firstCells_some W.drew i.size l.length ⟨g, off, none⟩ l.length cap _ (by rw [hin]; simp) (fun j u hu => ?_)
        exact QI.cell (W := W.drew) (_cap := cap) hb hc j u hu
      have hgc := grownCap_ge W (l.length + 1) cap 3
      have hgm : grownCap W (l.length + 1) cap 3 ≤ maxLen := grownCap_le_maxLen W (l.length + 1) cap 3 (by unfold maxLen; omega)
      have r := run_append_grow_src (P := Tryd.prog) W 30 30 30 3 i (.int .i64 0) Tryd.underlying30 i1 i2 (some ⟨g, off, none⟩) l.length cap _ hold _ 1 [.int .i64 x] src (by omega) (by omega) (growslice_fits (by omega) (by rw [i4]; show (l.length + 1) * 8 ≤ _; omega))
      refine ⟨_, _, r, Or.inr ⟨W.heap.size, 0, _, _, by rw [List.length_append]; rfl, by omega, heap_alloc_new W.drew _, by simpa using hgc, hgm, ?_, fun j y hj => ?_⟩, ⟨rfl, rfl, rfl, by simp, fun k hk _ => heap_alloc_old W.drew _ hk⟩, Or.inr ⟨_, rfl, Nat.le_refl _⟩, ⟨_, 0, _, _, rfl⟩⟩
      · have hz : (Value.int .i64 0).cells.size = 1 := rfl
        simp [size_zeroCells, hz]
        omega
      · have hj' := (List.getElem?_eq_some_iff.1 hj).1
        have e : ((l.map (fun n => Value.int .i64 n)) ++ [.int .i64 x]) = (l ++ [x]).map (fun n => Value.int .i64 n) := by simp
        rw [e, Nat.zero_add, Array.getElem?_append_left (by simpa using hj'), List.getElem?_toArray, List.getElem?_map, hj]
        rfl
/-- The first one cut off. -/
theorem tail_q {W : World} {B g off n cap : Nat} {h : Int} {t : List Int} (hq : QI W B (.slice (some ⟨g, off, none⟩) n cap) (h :: t)) :
    ∃ off', (∀ w, (Instr.sliceAt 30 (.slice (some ⟨g, off, none⟩) n cap) (some (.int .i64 1)) none none).run Tryd.prog w = .ok (.slice (some ⟨g, off', none⟩) t.length (cap - 1)) w) ∧ QI W B (.slice (some ⟨g, off', none⟩) t.length (cap - 1)) t := by
  rcases hq with ⟨e, _⟩ | ⟨g', off1, cap', cur, e, h2, h3, h4, h5, h6, h7⟩
  · cases e
  obtain ⟨⟨rfl, rfl⟩, rfl, rfl⟩ : (g = g' ∧ off = off1) ∧ n = (h :: t).length ∧ cap = cap' := by simpa using e
  have hs : ∀ w, (Instr.sliceAt 30 (.slice (some ⟨g, off, none⟩) (h :: t).length cap) (some (.int .i64 1)) none none).run Tryd.prog w = .ok (.slice (some (if cap = 1 then ⟨g, off, none⟩ else (⟨g, off, none⟩ : Addr).add (1 * EI.n))) ((h :: t).length - 1) (cap - 1)) w := fun w => slice_hi okI ⟨g, off, none⟩ 1 (h :: t).length cap (by simp) w
  by_cases hc : cap = 1
  · subst hc
    have ht : t = [] := by
      simp at h4
      exact h4
    subst ht
    refine ⟨off, fun w => ?_, Or.inr ⟨g, off, 0, cur, rfl, h2, h3, by simp, by unfold maxLen; omega, by omega, fun j x hj => by simp at hj⟩⟩
    have := hs w
    simpa using this
  · refine ⟨off + 1, fun w => ?_, Or.inr ⟨g, off + 1, cap - 1, cur, rfl, h2, h3, by simp at h4; omega, by omega, by simp at h4; omega, fun j x hj => ?_⟩⟩
    · have := hs w
      rw [if_neg hc] at this
      have e1 : (⟨g, off, none⟩ : Addr).add (1 * EI.n) = ⟨g, off + 1, none⟩ := by
        show (⟨g, off, none⟩ : Addr).add 1 = _
        rw [add_pos _ _ (by decide)]
      rw [e1] at this
      simpa using this
    · have := h7 (j + 1) x (by simpa using hj)
      rw [show off + 1 + j = off + (j + 1) by omega]
      exact this
end Go.Proofs.YtbnfndcbhnjnaaaDoor.Gr
