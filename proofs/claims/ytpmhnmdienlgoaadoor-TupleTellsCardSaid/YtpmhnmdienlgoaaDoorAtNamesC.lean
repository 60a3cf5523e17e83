/-
  The law TupleNames: two elements swapped, in whatever order the operations are taken. Condition: the contracts of package tuple; numbers of 64 bits; lists no longer than a machine holds.
-/
import Derived.Test.YtpmhnmdienlgoaaDoorAtPutsG
import Derived.Deep.Cut
import Derived.Deep.CutBlock
namespace Go.Proofs.YtpmhnmdienlgoaaDoor.At
open Go.RowKit Go.Sort Go.Proofs.YtpmhnmdienlgoaaDoor.Va Go.Proofs.YtpmhnmdienlgoaaDoor.In Go.Proofs.YtpmhnmdienlgoaaDoor.Rg

noncomputable def names13 : Code := ((Tryd.f6.body.bind (findRegion 13)).getD .skip)
theorem flatA_set : ∀ (l : List A4) (k : Nat) (x : A4), k < l.length → flatA (l.set k x) = ((((flatA l).set (k * 4) (.string x.1)).set (k * 4 + 1) (.bool x.2.1)).set (k * 4 + 2) (.int .i64 x.2.2.1)).set (k * 4 + 3) (.string x.2.2.2)
  | [], k, x, h => by simp at h
  | y :: r, 0, x, _ => rfl
  | y :: r, k + 1, x, h => by
    have ih := flatA_set r k x (by simpa using h)
    rw [show (k + 1) * 4 + 3 = (k * 4 + 3) + 1 + 1 + 1 + 1 by omega, show (k + 1) * 4 + 2 = (k * 4 + 2) + 1 + 1 + 1 + 1 by omega, show (k + 1) * 4 + 1 = (k * 4 + 1) + 1 + 1 + 1 + 1 by omega, show (k + 1) * 4 = (k * 4) + 1 + 1 + 1 + 1 by omega]
    simp only [flatA, List.set_cons_succ, ih]
theorem cell_el {w : World} {B g cap k : Nat} {l : List A4} {x : A4} (h : w.ownsRow B 25 4 (.slice (some ⟨g, 0, none⟩) l.length cap) l.length (flatA l)) (hx : l[k]? = some x) :
    w.cell? ⟨g, k * 4, none⟩ = some (.string x.1) ∧ w.cell? ⟨g, k * 4 + 1, none⟩ = some (.bool x.2.1) ∧ w.cell? ⟨g, k * 4 + 2, none⟩ = some (.int .i64 x.2.2.1) ∧ w.cell? ⟨g, k * 4 + 3, none⟩ = some (.string x.2.2.2) := by
  have hk := (List.getElem?_eq_some_iff.1 hx).1
  have f := flatA_at l k x hx
  exact ⟨(h.cellAt _ (by omega)).trans f.1, (h.cellAt _ (by omega)).trans f.2.1, (h.cellAt _ (by omega)).trans f.2.2.1, (h.cellAt _ (by omega)).trans f.2.2.2⟩
theorem load_el {w : World} {B g cap k : Nat} {l : List A4} {x : A4} (h : w.ownsRow B 25 4 (.slice (some ⟨g, 0, none⟩) l.length cap) l.length (flatA l)) (hx : l[k]? = some x) :
    (Instr.loadAt 25 (.pointer (some ⟨g, k * 4, none⟩))).run Tryd.prog w = .ok (av x) w := load_run4 w _ x.1 x.2.1 x.2.2.1 x.2.2.2 (cell_el h hx)
theorem store_el {w : World} {B g cap n k : Nat} {l : List A4} (x : A4) (hn : n = l.length) (h : w.ownsRow B 25 4 (.slice (some ⟨g, 0, none⟩) n cap) n (flatA l)) (hk : k < l.length) (hB : B ≤ g) :
    ∃ w', (Instr.storeAt 25 (.pointer (some ⟨g, k * 4, none⟩)) (av x)).run Tryd.prog w = .ok () w' ∧ w'.ownsRow B 25 4 (.slice (some ⟨g, 0, none⟩) n cap) n (flatA (l.set k x)) ∧ ∀ W, Below B W w → Below B W w' := by
  subst hn
  obtain ⟨y, hy⟩ : ∃ y, l[k]? = some y := ⟨_, List.getElem?_eq_getElem hk⟩
  have c := cell_el h hy
  have f := fun j => h.frozenAt j
  have s1 := (h.stored (k * 4) (.string x.1)).1
  have s2 := (s1.stored (k * 4 + 1) (.bool x.2.1)).1
  have s3 := (s2.stored (k * 4 + 2) (.int .i64 x.2.2.1)).1
  have s4 := (s3.stored (k * 4 + 3) (.string x.2.2.2)).1
  refine ⟨_, ?_, by rw [flatA_set l k x hk]; exact s4, fun W hb => (((hb.setCell hB _).setCell hB _).setCell hB _).setCell hB _⟩
  simp [go_sem, c, f]
theorem op_store {P : Program} {ops : Array Oper} {Q : Exit → Act → World → Prop} {K : Act → World → Prop} {a : Act} {w w' : World} {i : Nat} {o : Oper} (t : TypeId) (x y : Operand) {p v : Value}
    (ho : ops[i]? = some o) (hg : o.guard = none) (hop : o.op = .store t x y) (hd : o.dst = none) (hx : a.eval x = p) (hy : a.eval y = v) (hr : (Instr.storeAt t p v).run P w = .ok () w') (h : K a w') : wpOp P ops Q i K a w := by
  unfold wpOp
  rw [ho]
  have hw : Region.wanted o (yielded ops a.tmps) = true := by simp [Region.wanted, hg]
  simp only [hw, if_true]
  refine Or.inl ?_
  unfold Oper.wp
  have e : (execOp a.eval o).run P w = .ok .skip w' := by simp [execOp, hop, hx, hy, hr]
  rw [e, Oper.upon_skip, hd]
  exact h
structure Swp (base : Array Value) (W0 : World) (B g cap : Nat) (l : List A4) (ka kb : Nat) (x y : A4) (xv : Value) (L : Array Bool) (a : Act) (w : World) : Prop where
  df : a.defers = []
  sz : a.tmps.size = 126
  kp : ∀ j, (j < 74 ∨ 87 < j) → a.tmps[j]? = base[j]?
  bel : Below B W0 w
  o13 : done L 13 → done L 7 ∧ done L 11
  o15 : done L 15 → done L 13
  row0 : ¬ done L 13 → w.ownsRow B 25 4 (.slice (some ⟨g, 0, none⟩) l.length cap) l.length (flatA l)
  row1 : done L 13 → ¬ done L 15 → w.ownsRow B 25 4 (.slice (some ⟨g, 0, none⟩) l.length cap) l.length (flatA (l.set ka y))
  row2 : done L 15 → w.ownsRow B 25 4 (.slice (some ⟨g, 0, none⟩) l.length cap) l.length (flatA ((l.set ka y).set kb x))
  p0 : done L 0 → a.eval (.tmp 74) = xv
  p1 : done L 1 → a.eval (.tmp 75) = .int .i64 (ka : Nat)
  p2 : done L 2 → a.eval (.tmp 76) = xv
  p3 : done L 3 → a.eval (.tmp 77) = .int .i64 (kb : Nat)
  p4 : done L 4 → a.eval (.tmp 78) = xv
  p5 : done L 5 → a.eval (.tmp 79) = .int .i64 (kb : Nat)
  p6 : done L 6 → a.eval (.tmp 80) = .pointer (some ⟨g, kb * 4, none⟩)
  p7 : done L 7 → a.eval (.tmp 81) = av y
  p8 : done L 8 → a.eval (.tmp 82) = xv
  p9 : done L 9 → a.eval (.tmp 83) = .int .i64 (ka : Nat)
  p10 : done L 10 → a.eval (.tmp 84) = .pointer (some ⟨g, ka * 4, none⟩)
  p11 : done L 11 → a.eval (.tmp 85) = av x
  p12 : done L 12 → a.eval (.tmp 86) = .pointer (some ⟨g, ka * 4, none⟩)
  p14 : done L 14 → a.eval (.tmp 87) = .pointer (some ⟨g, kb * 4, none⟩)
theorem Swp_0 {base : Array Value} {W0 : World} {B g cap : Nat} {l : List A4} {ka kb : Nat} {x y : A4} {xv : Value} {L : Array Bool} {a : Act} {w : World} {v : Value} (h : Swp base W0 B g cap l ka kb x y xv L a w) (hL : L.size = 16) (hv : v = xv) : Swp base W0 B g cap l ka kb x y xv (L.setIfInBounds 0 true) (a.put (some 74) v) w := by
  have hd := fun j => done_set (L := L) (i := 0) (by omega) j
  have hs : 74 < a.tmps.size := by rw [h.sz]; decide
  have he := fun j => eval_put a 74 v j hs
  exact {
    df := h.df
    sz := (size_put a 74 v).trans h.sz
    kp := fun j h1 => (get_put a 74 v j (by omega)).trans (h.kp j h1)
    bel := h.bel
    o13 := fun h1 => by have h2 := h.o13 (by simpa [hd] using h1); simp [hd, h2]
    o15 := fun h1 => by have h2 := h.o15 (by simpa [hd] using h1); simp [hd, h2]
    row0 := fun h1 => h.row0 (by simpa [hd] using h1)
    row1 := fun h1 h2 => h.row1 (by simpa [hd] using h1) (by simpa [hd] using h2)
    row2 := fun h1 => h.row2 (by simpa [hd] using h1)
    p0 := fun _ => by rw [he, if_pos rfl]; exact hv
    p1 := fun h1 => by rw [he, if_neg (by decide)]; exact h.p1 (by simpa [hd] using h1)
    p2 := fun h1 => by rw [he, if_neg (by decide)]; exact h.p2 (by simpa [hd] using h1)
    p3 := fun h1 => by rw [he, if_neg (by decide)]; exact h.p3 (by simpa [hd] using h1)
    p4 := fun h1 => by rw [he, if_neg (by decide)]; exact h.p4 (by simpa [hd] using h1)
    p5 := fun h1 => by rw [he, if_neg (by decide)]; exact h.p5 (by simpa [hd] using h1)
    p6 := fun h1 => by rw [he, if_neg (by decide)]; exact h.p6 (by simpa [hd] using h1)
    p7 := fun h1 => by rw [he, if_neg (by decide)]; exact h.p7 (by simpa [hd] using h1)
    p8 := fun h1 => by rw [he, if_neg (by decide)]; exact h.p8 (by simpa [hd] using h1)
    p9 := fun h1 => by rw [he, if_neg (by decide)]; exact h.p9 (by simpa [hd] using h1)
    p10 := fun h1 => by rw [he, if_neg (by decide)]; exact h.p10 (by simpa [hd] using h1)
    p11 := fun h1 => by rw [he, if_neg (by decide)]; exact h.p11 (by simpa [hd] using h1)
    p12 := fun h1 => by rw [he, if_neg (by decide)]; exact h.p12 (by simpa [hd] using h1)
    p14 := fun h1 => by rw [he, if_neg (by decide)]; exact h.p14 (by simpa [hd] using h1)
  }
theorem Swp_1 {base : Array Value} {W0 : World} {B g cap : Nat} {l : List A4} {ka kb : Nat} {x y : A4} {xv : Value} {L : Array Bool} {a : Act} {w : World} {v : Value} (h : Swp base W0 B g cap l ka kb x y xv L a w) (hL : L.size = 16) (hv : v = .int .i64 (ka : Nat)) : Swp base W0 B g cap l ka kb x y xv (L.setIfInBounds 1 true) (a.put (some 75) v) w := by
  have hd := fun j => done_set (L := L) (i := 1) (by omega) j
  have hs : 75 < a.tmps.size := by rw [h.sz]; decide
  have he := fun j => eval_put a 75 v j hs
  exact {
    df := h.df
    sz := (size_put a 75 v).trans h.sz
    kp := fun j h1 => (get_put a 75 v j (by omega)).trans (h.kp j h1)
    bel := h.bel
    o13 := fun h1 => by have h2 := h.o13 (by simpa [hd] using h1); simp [hd, h2]
    o15 := fun h1 => by have h2 := h.o15 (by simpa [hd] using h1); simp [hd, h2]
    row0 := fun h1 => h.row0 (by simpa [hd] using h1)
    row1 := fun h1 h2 => h.row1 (by simpa [hd] using h1) (by simpa [hd] using h2)
    row2 := fun h1 => h.row2 (by simpa [hd] using h1)
    p0 := fun h1 => by rw [he, if_neg (by decide)]; exact h.p0 (by simpa [hd] using h1)
    p1 := fun _ => by rw [he, if_pos rfl]; exact hv
    p2 := fun h1 => by rw [he, if_neg (by decide)]; exact h.p2 (by simpa [hd] using h1)
    p3 := fun h1 => by rw [he, if_neg (by decide)]; exact h.p3 (by simpa [hd] using h1)
    p4 := fun h1 => by rw [he, if_neg (by decide)]; exact h.p4 (by simpa [hd] using h1)
    p5 := fun h1 => by rw [he, if_neg (by decide)]; exact h.p5 (by simpa [hd] using h1)
    p6 := fun h1 => by rw [he, if_neg (by decide)]; exact h.p6 (by simpa [hd] using h1)
    p7 := fun h1 => by rw [he, if_neg (by decide)]; exact h.p7 (by simpa [hd] using h1)
    p8 := fun h1 => by rw [he, if_neg (by decide)]; exact h.p8 (by simpa [hd] using h1)
    p9 := fun h1 => by rw [he, if_neg (by decide)]; exact h.p9 (by simpa [hd] using h1)
    p10 := fun h1 => by rw [he, if_neg (by decide)]; exact h.p10 (by simpa [hd] using h1)
    p11 := fun h1 => by rw [he, if_neg (by decide)]; exact h.p11 (by simpa [hd] using h1)
    p12 := fun h1 => by rw [he, if_neg (by decide)]; exact h.p12 (by simpa [hd] using h1)
    p14 := fun h1 => by rw [he, if_neg (by decide)]; exact h.p14 (by simpa [hd] using h1)
  }
theorem Swp_2 {base : Array Value} {W0 : World} {B g cap : Nat} {l : List A4} {ka kb : Nat} {x y : A4} {xv : Value} {L : Array Bool} {a : Act} {w : World} {v : Value} (h : Swp base W0 B g cap l ka kb x y xv L a w) (hL : L.size = 16) (hv : v = xv) : Swp base W0 B g cap l ka kb x y xv (L.setIfInBounds 2 true) (a.put (some 76) v) w := by
  have hd := fun j => done_set (L := L) (i := 2) (by omega) j
  have hs : 76 < a.tmps.size := by rw [h.sz]; decide
  have he := fun j => eval_put a 76 v j hs
  exact {
    df := h.df
    sz := (size_put a 76 v).trans h.sz
    kp := fun j h1 => (get_put a 76 v j (by omega)).trans (h.kp j h1)
    bel := h.bel
    o13 := fun h1 => by have h2 := h.o13 (by simpa [hd] using h1); simp [hd, h2]
    o15 := fun h1 => by have h2 := h.o15 (by simpa [hd] using h1); simp [hd, h2]
    row0 := fun h1 => h.row0 (by simpa [hd] using h1)
    row1 := fun h1 h2 => h.row1 (by simpa [hd] using h1) (by simpa [hd] using h2)
    row2 := fun h1 => h.row2 (by simpa [hd] using h1)
    p0 := fun h1 => by rw [he, if_neg (by decide)]; exact h.p0 (by simpa [hd] using h1)
    p1 := fun h1 => by rw [he, if_neg (by decide)]; exact h.p1 (by simpa [hd] using h1)
    p2 := fun _ => by rw [he, if_pos rfl]; exact hv
    p3 := fun h1 => by rw [he, if_neg (by decide)]; exact h.p3 (by simpa [hd] using h1)
    p4 := fun h1 => by rw [he, if_neg (by decide)]; exact h.p4 (by simpa [hd] using h1)
    p5 := fun h1 => by rw [he, if_neg (by decide)]; exact h.p5 (by simpa [hd] using h1)
    p6 := fun h1 => by rw [he, if_neg (by decide)]; exact h.p6 (by simpa [hd] using h1)
    p7 := fun h1 => by rw [he, if_neg (by decide)]; exact h.p7 (by simpa [hd] using h1)
    p8 := fun h1 => by rw [he, if_neg (by decide)]; exact h.p8 (by simpa [hd] using h1)
    p9 := fun h1 => by rw [he, if_neg (by decide)]; exact h.p9 (by simpa [hd] using h1)
    p10 := fun h1 => by rw [he, if_neg (by decide)]; exact h.p10 (by simpa [hd] using h1)
    p11 := fun h1 => by rw [he, if_neg (by decide)]; exact h.p11 (by simpa [hd] using h1)
    p12 := fun h1 => by rw [he, if_neg (by decide)]; exact h.p12 (by simpa [hd] using h1)
    p14 := fun h1 => by rw [he, if_neg (by decide)]; exact h.p14 (by simpa [hd] using h1)
  }
theorem Swp_3 {base : Array Value} {W0 : World} {B g cap : Nat} {l : List A4} {ka kb : Nat} {x y : A4} {xv : Value} {L : Array Bool} {a : Act} {w : World} {v : Value} (h : Swp base W0 B g cap l ka kb x y xv L a w) (hL : L.size = 16) (hv : v = .int .i64 (kb : Nat)) : Swp base W0 B g cap l ka kb x y xv (L.setIfInBounds 3 true) (a.put (some 77) v) w := by
  have hd := fun j => done_set (L := L) (i := 3) (by omega) j
  have hs : 77 < a.tmps.size := by rw [h.sz]; decide
  have he := fun j => eval_put a 77 v j hs
  exact {
    df := h.df
    sz := (size_put a 77 v).trans h.sz
    kp := fun j h1 => (get_put a 77 v j (by omega)).trans (h.kp j h1)
    bel := h.bel
    o13 := fun h1 => by have h2 := h.o13 (by simpa [hd] using h1); simp [hd, h2]
    o15 := fun h1 => by have h2 := h.o15 (by simpa [hd] using h1); simp [hd, h2]
    row0 := fun h1 => h.row0 (by simpa [hd] using h1)
    row1 := fun h1 h2 => h.row1 (by simpa [hd] using h1) (by simpa [hd] using h2)
    row2 := fun h1 => h.row2 (by simpa [hd] using h1)
    p0 := fun h1 => by rw [he, if_neg (by decide)]; exact h.p0 (by simpa [hd] using h1)
    p1 := fun h1 => by rw [he, if_neg (by decide)]; exact h.p1 (by simpa [hd] using h1)
    p2 := fun h1 => by rw [he, if_neg (by decide)]; exact h.p2 (by simpa [hd] using h1)
    p3 := fun _ => by rw [he, if_pos rfl]; exact hv
    p4 := fun h1 => by rw [he, if_neg (by decide)]; exact h.p4 (by simpa [hd] using h1)
    p5 := fun h1 => by rw [he, if_neg (by decide)]; exact h.p5 (by simpa [hd] using h1)
    p6 := fun h1 => by rw [he, if_neg (by decide)]; exact h.p6 (by simpa [hd] using h1)
    p7 := fun h1 => by rw [he, if_neg (by decide)]; exact h.p7 (by simpa [hd] using h1)
    p8 := fun h1 => by rw [he, if_neg (by decide)]; exact h.p8 (by simpa [hd] using h1)
    p9 := fun h1 => by rw [he, if_neg (by decide)]; exact h.p9 (by simpa [hd] using h1)
    p10 := fun h1 => by rw [he, if_neg (by decide)]; exact h.p10 (by simpa [hd] using h1)
    p11 := fun h1 => by rw [he, if_neg (by decide)]; exact h.p11 (by simpa [hd] using h1)
    p12 := fun h1 => by rw [he, if_neg (by decide)]; exact h.p12 (by simpa [hd] using h1)
    p14 := fun h1 => by rw [he, if_neg (by decide)]; exact h.p14 (by simpa [hd] using h1)
  }
theorem Swp_4 {base : Array Value} {W0 : World} {B g cap : Nat} {l : List A4} {ka kb : Nat} {x y : A4} {xv : Value} {L : Array Bool} {a : Act} {w : World} {v : Value} (h : Swp base W0 B g cap l ka kb x y xv L a w) (hL : L.size = 16) (hv : v = xv) : Swp base W0 B g cap l ka kb x y xv (L.setIfInBounds 4 true) (a.put (some 78) v) w := by
  have hd := fun j => done_set (L := L) (i := 4) (by omega) j
  have hs : 78 < a.tmps.size := by rw [h.sz]; decide
  have he := fun j => eval_put a 78 v j hs
  exact {
    df := h.df
    sz := (size_put a 78 v).trans h.sz
    kp := fun j h1 => (get_put a 78 v j (by omega)).trans (h.kp j h1)
    bel := h.bel
    o13 := fun h1 => by have h2 := h.o13 (by simpa [hd] using h1); simp [hd, h2]
    o15 := fun h1 => by have h2 := h.o15 (by simpa [hd] using h1); simp [hd, h2]
    row0 := fun h1 => h.row0 (by simpa [hd] using h1)
    row1 := fun h1 h2 => h.row1 (by simpa [hd] using h1) (by simpa [hd] using h2)
    row2 := fun h1 => h.row2 (by simpa [hd] using h1)
    p0 := fun h1 => by rw [he, if_neg (by decide)]; exact h.p0 (by simpa [hd] using h1)
    p1 := fun h1 => by rw [he, if_neg (by decide)]; exact h.p1 (by simpa [hd] using h1)
    p2 := fun h1 => by rw [he, if_neg (by decide)]; exact h.p2 (by simpa [hd] using h1)
    p3 := fun h1 => by rw [he, if_neg (by decide)]; exact h.p3 (by simpa [hd] using h1)
    p4 := fun _ => by rw [he, if_pos rfl]; exact hv
    p5 := fun h1 => by rw [he, if_neg (by decide)]; exact h.p5 (by simpa [hd] using h1)
    p6 := fun h1 => by rw [he, if_neg (by decide)]; exact h.p6 (by simpa [hd] using h1)
    p7 := fun h1 => by rw [he, if_neg (by decide)]; exact h.p7 (by simpa [hd] using h1)
    p8 := fun h1 => by rw [he, if_neg (by decide)]; exact h.p8 (by simpa [hd] using h1)
    p9 := fun h1 => by rw [he, if_neg (by decide)]; exact h.p9 (by simpa [hd] using h1)
    p10 := fun h1 => by rw [he, if_neg (by decide)]; exact h.p10 (by simpa [hd] using h1)
    p11 := fun h1 => by rw [he, if_neg (by decide)]; exact h.p11 (by simpa [hd] using h1)
    p12 := fun h1 => by rw [he, if_neg (by decide)]; exact h.p12 (by simpa [hd] using h1)
    p14 := fun h1 => by rw [he, if_neg (by decide)]; exact h.p14 (by simpa [hd] using h1)
  }
theorem Swp_5 {base : Array Value} {W0 : World} {B g cap : Nat} {l : List A4} {ka kb : Nat} {x y : A4} {xv : Value} {L : Array Bool} {a : Act} {w : World} {v : Value} (h : Swp base W0 B g cap l ka kb x y xv L a w) (hL : L.size = 16) (hv : v = .int .i64 (kb : Nat)) : Swp base W0 B g cap l ka kb x y xv (L.setIfInBounds 5 true) (a.put (some 79) v) w := by
  have hd := fun j => done_set (L := L) (i := 5) (by omega) j
  have hs : 79 < a.tmps.size := by rw [h.sz]; decide
  have he := fun j => eval_put a 79 v j hs
  exact {
    df := h.df
    sz := (size_put a 79 v).trans h.sz
    kp := fun j h1 => (get_put a 79 v j (by omega)).trans (h.kp j h1)
    bel := h.bel
    o13 := fun h1 => by have h2 := h.o13 (by simpa [hd] using h1); simp [hd, h2]
    o15 := fun h1 => by have h2 := h.o15 (by simpa [hd] using h1); simp [hd, h2]
    row0 := fun h1 => h.row0 (by simpa [hd] using h1)
    row1 := fun h1 h2 => h.row1 (by simpa [hd] using h1) (by simpa [hd] using h2)
    row2 := fun h1 => h.row2 (by simpa [hd] using h1)
    p0 := fun h1 => by rw [he, if_neg (by decide)]; exact h.p0 (by simpa [hd] using h1)
    p1 := fun h1 => by rw [he, if_neg (by decide)]; exact h.p1 (by simpa [hd] using h1)
    p2 := fun h1 => by rw [he, if_neg (by decide)]; exact h.p2 (by simpa [hd] using h1)
    p3 := fun h1 => by rw [he, if_neg (by decide)]; exact h.p3 (by simpa [hd] using h1)
    p4 := fun h1 => by rw [he, if_neg (by decide)]; exact h.p4 (by simpa [hd] using h1)
    p5 := fun _ => by rw [he, if_pos rfl]; exact hv
    p6 := fun h1 => by rw [he, if_neg (by decide)]; exact h.p6 (by simpa [hd] using h1)
    p7 := fun h1 => by rw [he, if_neg (by decide)]; exact h.p7 (by simpa [hd] using h1)
    p8 := fun h1 => by rw [he, if_neg (by decide)]; exact h.p8 (by simpa [hd] using h1)
    p9 := fun h1 => by rw [he, if_neg (by decide)]; exact h.p9 (by simpa [hd] using h1)
    p10 := fun h1 => by rw [he, if_neg (by decide)]; exact h.p10 (by simpa [hd] using h1)
    p11 := fun h1 => by rw [he, if_neg (by decide)]; exact h.p11 (by simpa [hd] using h1)
    p12 := fun h1 => by rw [he, if_neg (by decide)]; exact h.p12 (by simpa [hd] using h1)
    p14 := fun h1 => by rw [he, if_neg (by decide)]; exact h.p14 (by simpa [hd] using h1)
  }
theorem Swp_6 {base : Array Value} {W0 : World} {B g cap : Nat} {l : List A4} {ka kb : Nat} {x y : A4} {xv : Value} {L : Array Bool} {a : Act} {w : World} {v : Value} (h : Swp base W0 B g cap l ka kb x y xv L a w) (hL : L.size = 16) (hv : v = .pointer (some ⟨g, kb * 4, none⟩)) : Swp base W0 B g cap l ka kb x y xv (L.setIfInBounds 6 true) (a.put (some 80) v) w := by
  have hd := fun j => done_set (L := L) (i := 6) (by omega) j
  have hs : 80 < a.tmps.size := by rw [h.sz]; decide
  have he := fun j => eval_put a 80 v j hs
  exact {
    df := h.df
    sz := (size_put a 80 v).trans h.sz
    kp := fun j h1 => (get_put a 80 v j (by omega)).trans (h.kp j h1)
    bel := h.bel
    o13 := fun h1 => by have h2 := h.o13 (by simpa [hd] using h1); simp [hd, h2]
    o15 := fun h1 => by have h2 := h.o15 (by simpa [hd] using h1); simp [hd, h2]
    row0 := fun h1 => h.row0 (by simpa [hd] using h1)
    row1 := fun h1 h2 => h.row1 (by simpa [hd] using h1) (by simpa [hd] using h2)
    row2 := fun h1 => h.row2 (by simpa [hd] using h1)
    p0 := fun h1 => by rw [he, if_neg (by decide)]; exact h.p0 (by simpa [hd] using h1)
    p1 := fun h1 => by rw [he, if_neg (by decide)]; exact h.p1 (by simpa [hd] using h1)
    p2 := fun h1 => by rw [he, if_neg (by decide)]; exact h.p2 (by simpa [hd] using h1)
    p3 := fun h1 => by rw [he, if_neg (by decide)]; exact h.p3 (by simpa [hd] using h1)
    p4 := fun h1 => by rw [he, if_neg (by decide)]; exact h.p4 (by simpa [hd] using h1)
    p5 := fun h1 => by rw [he, if_neg (by decide)]; exact h.p5 (by simpa [hd] using h1)
    p6 := fun _ => by rw [he, if_pos rfl]; exact hv
    p7 := fun h1 => by rw [he, if_neg (by decide)]; exact h.p7 (by simpa [hd] using h1)
    p8 := fun h1 => by rw [he, if_neg (by decide)]; exact h.p8 (by simpa [hd] using h1)
    p9 := fun h1 => by rw [he, if_neg (by decide)]; exact h.p9 (by simpa [hd] using h1)
    p10 := fun h1 => by rw [he, if_neg (by decide)]; exact h.p10 (by simpa [hd] using h1)
    p11 := fun h1 => by rw [he, if_neg (by decide)]; exact h.p11 (by simpa [hd] using h1)
    p12 := fun h1 => by rw [he, if_neg (by decide)]; exact h.p12 (by simpa [hd] using h1)
    p14 := fun h1 => by rw [he, if_neg (by decide)]; exact h.p14 (by simpa [hd] using h1)
  }
theorem Swp_7 {base : Array Value} {W0 : World} {B g cap : Nat} {l : List A4} {ka kb : Nat} {x y : A4} {xv : Value} {L : Array Bool} {a : Act} {w : World} {v : Value} (h : Swp base W0 B g cap l ka kb x y xv L a w) (hL : L.size = 16) (hv : v = av y) : Swp base W0 B g cap l ka kb x y xv (L.setIfInBounds 7 true) (a.put (some 81) v) w := by
  have hd := fun j => done_set (L := L) (i := 7) (by omega) j
  have hs : 81 < a.tmps.size := by rw [h.sz]; decide
  have he := fun j => eval_put a 81 v j hs
  exact {
    df := h.df
    sz := (size_put a 81 v).trans h.sz
    kp := fun j h1 => (get_put a 81 v j (by omega)).trans (h.kp j h1)
    bel := h.bel
    o13 := fun h1 => by have h2 := h.o13 (by simpa [hd] using h1); simp [hd, h2]
    o15 := fun h1 => by have h2 := h.o15 (by simpa [hd] using h1); simp [hd, h2]
    row0 := fun h1 => h.row0 (by simpa [hd] using h1)
    row1 := fun h1 h2 => h.row1 (by simpa [hd] using h1) (by simpa [hd] using h2)
    row2 := fun h1 => h.row2 (by simpa [hd] using h1)
    p0 := fun h1 => by rw [he, if_neg (by decide)]; exact h.p0 (by simpa [hd] using h1)
    p1 := fun h1 => by rw [he, if_neg (by decide)]; exact h.p1 (by simpa [hd] using h1)
    p2 := fun h1 => by rw [he, if_neg (by decide)]; exact h.p2 (by simpa [hd] using h1)
    p3 := fun h1 => by rw [he, if_neg (by decide)]; exact h.p3 (by simpa [hd] using h1)
    p4 := fun h1 => by rw [he, if_neg (by decide)]; exact h.p4 (by simpa [hd] using h1)
    p5 := fun h1 => by rw [he, if_neg (by decide)]; exact h.p5 (by simpa [hd] using h1)
    p6 := fun h1 => by rw [he, if_neg (by decide)]; exact h.p6 (by simpa [hd] using h1)
    p7 := fun _ => by rw [he, if_pos rfl]; exact hv
    p8 := fun h1 => by rw [he, if_neg (by decide)]; exact h.p8 (by simpa [hd] using h1)
    p9 := fun h1 => by rw [he, if_neg (by decide)]; exact h.p9 (by simpa [hd] using h1)
    p10 := fun h1 => by rw [he, if_neg (by decide)]; exact h.p10 (by simpa [hd] using h1)
    p11 := fun h1 => by rw [he, if_neg (by decide)]; exact h.p11 (by simpa [hd] using h1)
    p12 := fun h1 => by rw [he, if_neg (by decide)]; exact h.p12 (by simpa [hd] using h1)
    p14 := fun h1 => by rw [he, if_neg (by decide)]; exact h.p14 (by simpa [hd] using h1)
  }
theorem Swp_8 {base : Array Value} {W0 : World} {B g cap : Nat} {l : List A4} {ka kb : Nat} {x y : A4} {xv : Value} {L : Array Bool} {a : Act} {w : World} {v : Value} (h : Swp base W0 B g cap l ka kb x y xv L a w) (hL : L.size = 16) (hv : v = xv) : Swp base W0 B g cap l ka kb x y xv (L.setIfInBounds 8 true) (a.put (some 82) v) w := by
  have hd := fun j => done_set (L := L) (i := 8) (by omega) j
  have hs : 82 < a.tmps.size := by rw [h.sz]; decide
  have he := fun j => eval_put a 82 v j hs
  exact {
    df := h.df
    sz := (size_put a 82 v).trans h.sz
    kp := fun j h1 => (get_put a 82 v j (by omega)).trans (h.kp j h1)
    bel := h.bel
    o13 := fun h1 => by have h2 := h.o13 (by simpa [hd] using h1); simp [hd, h2]
    o15 := fun h1 => by have h2 := h.o15 (by simpa [hd] using h1); simp [hd, h2]
    row0 := fun h1 => h.row0 (by simpa [hd] using h1)
    row1 := fun h1 h2 => h.row1 (by simpa [hd] using h1) (by simpa [hd] using h2)
    row2 := fun h1 => h.row2 (by simpa [hd] using h1)
    p0 := fun h1 => by rw [he, if_neg (by decide)]; exact h.p0 (by simpa [hd] using h1)
    p1 := fun h1 => by rw [he, if_neg (by decide)]; exact h.p1 (by simpa [hd] using h1)
    p2 := fun h1 => by rw [he, if_neg (by decide)]; exact h.p2 (by simpa [hd] using h1)
    p3 := fun h1 => by rw [he, if_neg (by decide)]; exact h.p3 (by simpa [hd] using h1)
    p4 := fun h1 => by rw [he, if_neg (by decide)]; exact h.p4 (by simpa [hd] using h1)
    p5 := fun h1 => by rw [he, if_neg (by decide)]; exact h.p5 (by simpa [hd] using h1)
    p6 := fun h1 => by rw [he, if_neg (by decide)]; exact h.p6 (by simpa [hd] using h1)
    p7 := fun h1 => by rw [he, if_neg (by decide)]; exact h.p7 (by simpa [hd] using h1)
    p8 := fun _ => by rw [he, if_pos rfl]; exact hv
    p9 := fun h1 => by rw [he, if_neg (by decide)]; exact h.p9 (by simpa [hd] using h1)
    p10 := fun h1 => by rw [he, if_neg (by decide)]; exact h.p10 (by simpa [hd] using h1)
    p11 := fun h1 => by rw [he, if_neg (by decide)]; exact h.p11 (by simpa [hd] using h1)
    p12 := fun h1 => by rw [he, if_neg (by decide)]; exact h.p12 (by simpa [hd] using h1)
    p14 := fun h1 => by rw [he, if_neg (by decide)]; exact h.p14 (by simpa [hd] using h1)
  }
theorem Swp_9 {base : Array Value} {W0 : World} {B g cap : Nat} {l : List A4} {ka kb : Nat} {x y : A4} {xv : Value} {L : Array Bool} {a : Act} {w : World} {v : Value} (h : Swp base W0 B g cap l ka kb x y xv L a w) (hL : L.size = 16) (hv : v = .int .i64 (ka : Nat)) : Swp base W0 B g cap l ka kb x y xv (L.setIfInBounds 9 true) (a.put (some 83) v) w := by
  have hd := fun j => done_set (L := L) (i := 9) (by omega) j
  have hs : 83 < a.tmps.size := by rw [h.sz]; decide
  have he := fun j => eval_put a 83 v j hs
  exact {
    df := h.df
    sz := (size_put a 83 v).trans h.sz
    kp := fun j h1 => (get_put a 83 v j (by omega)).trans (h.kp j h1)
    bel := h.bel
    o13 := fun h1 => by have h2 := h.o13 (by simpa [hd] using h1); simp [hd, h2]
    o15 := fun h1 => by have h2 := h.o15 (by simpa [hd] using h1); simp [hd, h2]
    row0 := fun h1 => h.row0 (by simpa [hd] using h1)
    row1 := fun h1 h2 => h.row1 (by simpa [hd] using h1) (by simpa [hd] using h2)
    row2 := fun h1 => h.row2 (by simpa [hd] using h1)
    p0 := fun h1 => by rw [he, if_neg (by decide)]; exact h.p0 (by simpa [hd] using h1)
    p1 := fun h1 => by rw [he, if_neg (by decide)]; exact h.p1 (by simpa [hd] using h1)
    p2 := fun h1 => by rw [he, if_neg (by decide)]; exact h.p2 (by simpa [hd] using h1)
    p3 := fun h1 => by rw [he, if_neg (by decide)]; exact h.p3 (by simpa [hd] using h1)
    p4 := fun h1 => by rw [he, if_neg (by decide)]; exact h.p4 (by simpa [hd] using h1)
    p5 := fun h1 => by rw [he, if_neg (by decide)]; exact h.p5 (by simpa [hd] using h1)
    p6 := fun h1 => by rw [he, if_neg (by decide)]; exact h.p6 (by simpa [hd] using h1)
    p7 := fun h1 => by rw [he, if_neg (by decide)]; exact h.p7 (by simpa [hd] using h1)
    p8 := fun h1 => by rw [he, if_neg (by decide)]; exact h.p8 (by simpa [hd] using h1)
    p9 := fun _ => by rw [he, if_pos rfl]; exact hv
    p10 := fun h1 => by rw [he, if_neg (by decide)]; exact h.p10 (by simpa [hd] using h1)
    p11 := fun h1 => by rw [he, if_neg (by decide)]; exact h.p11 (by simpa [hd] using h1)
    p12 := fun h1 => by rw [he, if_neg (by decide)]; exact h.p12 (by simpa [hd] using h1)
    p14 := fun h1 => by rw [he, if_neg (by decide)]; exact h.p14 (by simpa [hd] using h1)
  }
theorem Swp_10 {base : Array Value} {W0 : World} {B g cap : Nat} {l : List A4} {ka kb : Nat} {x y : A4} {xv : Value} {L : Array Bool} {a : Act} {w : World} {v : Value} (h : Swp base W0 B g cap l ka kb x y xv L a w) (hL : L.size = 16) (hv : v = .pointer (some ⟨g, ka * 4, none⟩)) : Swp base W0 B g cap l ka kb x y xv (L.setIfInBounds 10 true) (a.put (some 84) v) w := by
  have hd := fun j => done_set (L := L) (i := 10) (by omega) j
  have hs : 84 < a.tmps.size := by rw [h.sz]; decide
  have he := fun j => eval_put a 84 v j hs
  exact {
    df := h.df
    sz := (size_put a 84 v).trans h.sz
    kp := fun j h1 => (get_put a 84 v j (by omega)).trans (h.kp j h1)
    bel := h.bel
    o13 := fun h1 => by have h2 := h.o13 (by simpa [hd] using h1); simp [hd, h2]
    o15 := fun h1 => by have h2 := h.o15 (by simpa [hd] using h1); simp [hd, h2]
    row0 := fun h1 => h.row0 (by simpa [hd] using h1)
    row1 := fun h1 h2 => h.row1 (by simpa [hd] using h1) (by simpa [hd] using h2)
    row2 := fun h1 => h.row2 (by simpa [hd] using h1)
    p0 := fun h1 => by rw [he, if_neg (by decide)]; exact h.p0 (by simpa [hd] using h1)
    p1 := fun h1 => by rw [he, if_neg (by decide)]; exact h.p1 (by simpa [hd] using h1)
    p2 := fun h1 => by rw [he, if_neg (by decide)]; exact h.p2 (by simpa [hd] using h1)
    p3 := fun h1 => by rw [he, if_neg (by decide)]; exact h.p3 (by simpa [hd] using h1)
    p4 := fun h1 => by rw [he, if_neg (by decide)]; exact h.p4 (by simpa [hd] using h1)
    p5 := fun h1 => by rw [he, if_neg (by decide)]; exact h.p5 (by simpa [hd] using h1)
    p6 := fun h1 => by rw [he, if_neg (by decide)]; exact h.p6 (by simpa [hd] using h1)
    p7 := fun h1 => by rw [he, if_neg (by decide)]; exact h.p7 (by simpa [hd] using h1)
    p8 := fun h1 => by rw [he, if_neg (by decide)]; exact h.p8 (by simpa [hd] using h1)
    p9 := fun h1 => by rw [he, if_neg (by decide)]; exact h.p9 (by simpa [hd] using h1)
    p10 := fun _ => by rw [he, if_pos rfl]; exact hv
    p11 := fun h1 => by rw [he, if_neg (by decide)]; exact h.p11 (by simpa [hd] using h1)
    p12 := fun h1 => by rw [he, if_neg (by decide)]; exact h.p12 (by simpa [hd] using h1)
    p14 := fun h1 => by rw [he, if_neg (by decide)]; exact h.p14 (by simpa [hd] using h1)
  }
theorem Swp_11 {base : Array Value} {W0 : World} {B g cap : Nat} {l : List A4} {ka kb : Nat} {x y : A4} {xv : Value} {L : Array Bool} {a : Act} {w : World} {v : Value} (h : Swp base W0 B g cap l ka kb x y xv L a w) (hL : L.size = 16) (hv : v = av x) : Swp base W0 B g cap l ka kb x y xv (L.setIfInBounds 11 true) (a.put (some 85) v) w := by
  have hd := fun j => done_set (L := L) (i := 11) (by omega) j
  have hs : 85 < a.tmps.size := by rw [h.sz]; decide
  have he := fun j => eval_put a 85 v j hs
  exact {
    df := h.df
    sz := (size_put a 85 v).trans h.sz
    kp := fun j h1 => (get_put a 85 v j (by omega)).trans (h.kp j h1)
    bel := h.bel
    o13 := fun h1 => by have h2 := h.o13 (by simpa [hd] using h1); simp [hd, h2]
    o15 := fun h1 => by have h2 := h.o15 (by simpa [hd] using h1); simp [hd, h2]
    row0 := fun h1 => h.row0 (by simpa [hd] using h1)
    row1 := fun h1 h2 => h.row1 (by simpa [hd] using h1) (by simpa [hd] using h2)
    row2 := fun h1 => h.row2 (by simpa [hd] using h1)
    p0 := fun h1 => by rw [he, if_neg (by decide)]; exact h.p0 (by simpa [hd] using h1)
    p1 := fun h1 => by rw [he, if_neg (by decide)]; exact h.p1 (by simpa [hd] using h1)
    p2 := fun h1 => by rw [he, if_neg (by decide)]; exact h.p2 (by simpa [hd] using h1)
    p3 := fun h1 => by rw [he, if_neg (by decide)]; exact h.p3 (by simpa [hd] using h1)
    p4 := fun h1 => by rw [he, if_neg (by decide)]; exact h.p4 (by simpa [hd] using h1)
    p5 := fun h1 => by rw [he, if_neg (by decide)]; exact h.p5 (by simpa [hd] using h1)
    p6 := fun h1 => by rw [he, if_neg (by decide)]; exact h.p6 (by simpa [hd] using h1)
    p7 := fun h1 => by rw [he, if_neg (by decide)]; exact h.p7 (by simpa [hd] using h1)
    p8 := fun h1 => by rw [he, if_neg (by decide)]; exact h.p8 (by simpa [hd] using h1)
    p9 := fun h1 => by rw [he, if_neg (by decide)]; exact h.p9 (by simpa [hd] using h1)
    p10 := fun h1 => by rw [he, if_neg (by decide)]; exact h.p10 (by simpa [hd] using h1)
    p11 := fun _ => by rw [he, if_pos rfl]; exact hv
    p12 := fun h1 => by rw [he, if_neg (by decide)]; exact h.p12 (by simpa [hd] using h1)
    p14 := fun h1 => by rw [he, if_neg (by decide)]; exact h.p14 (by simpa [hd] using h1)
  }
theorem Swp_12 {base : Array Value} {W0 : World} {B g cap : Nat} {l : List A4} {ka kb : Nat} {x y : A4} {xv : Value} {L : Array Bool} {a : Act} {w : World} {v : Value} (h : Swp base W0 B g cap l ka kb x y xv L a w) (hL : L.size = 16) (hv : v = .pointer (some ⟨g, ka * 4, none⟩)) : Swp base W0 B g cap l ka kb x y xv (L.setIfInBounds 12 true) (a.put (some 86) v) w := by
  have hd := fun j => done_set (L := L) (i := 12) (by omega) j
  have hs : 86 < a.tmps.size := by rw [h.sz]; decide
  have he := fun j => eval_put a 86 v j hs
  exact {
    df := h.df
    sz := (size_put a 86 v).trans h.sz
    kp := fun j h1 => (get_put a 86 v j (by omega)).trans (h.kp j h1)
    bel := h.bel
    o13 := fun h1 => by have h2 := h.o13 (by simpa [hd] using h1); simp [hd, h2]
    o15 := fun h1 => by have h2 := h.o15 (by simpa [hd] using h1); simp [hd, h2]
    row0 := fun h1 => h.row0 (by simpa [hd] using h1)
    row1 := fun h1 h2 => h.row1 (by simpa [hd] using h1) (by simpa [hd] using h2)
    row2 := fun h1 => h.row2 (by simpa [hd] using h1)
    p0 := fun h1 => by rw [he, if_neg (by decide)]; exact h.p0 (by simpa [hd] using h1)
    p1 := fun h1 => by rw [he, if_neg (by decide)]; exact h.p1 (by simpa [hd] using h1)
    p2 := fun h1 => by rw [he, if_neg (by decide)]; exact h.p2 (by simpa [hd] using h1)
    p3 := fun h1 => by rw [he, if_neg (by decide)]; exact h.p3 (by simpa [hd] using h1)
    p4 := fun h1 => by rw [he, if_neg (by decide)]; exact h.p4 (by simpa [hd] using h1)
    p5 := fun h1 => by rw [he, if_neg (by decide)]; exact h.p5 (by simpa [hd] using h1)
    p6 := fun h1 => by rw [he, if_neg (by decide)]; exact h.p6 (by simpa [hd] using h1)
    p7 := fun h1 => by rw [he, if_neg (by decide)]; exact h.p7 (by simpa [hd] using h1)
    p8 := fun h1 => by rw [he, if_neg (by decide)]; exact h.p8 (by simpa [hd] using h1)
    p9 := fun h1 => by rw [he, if_neg (by decide)]; exact h.p9 (by simpa [hd] using h1)
    p10 := fun h1 => by rw [he, if_neg (by decide)]; exact h.p10 (by simpa [hd] using h1)
    p11 := fun h1 => by rw [he, if_neg (by decide)]; exact h.p11 (by simpa [hd] using h1)
    p12 := fun _ => by rw [he, if_pos rfl]; exact hv
    p14 := fun h1 => by rw [he, if_neg (by decide)]; exact h.p14 (by simpa [hd] using h1)
  }
theorem Swp_13 {base : Array Value} {W0 : World} {B g cap : Nat} {l : List A4} {ka kb : Nat} {x y : A4} {xv : Value} {L : Array Bool} {a : Act} {w : World} {w' : World} (h : Swp base W0 B g cap l ka kb x y xv L a w) (hL : L.size = 16) (hnd : ¬ done L 13) (d7 : done L 7) (d11 : done L 11) (hr : w'.ownsRow B 25 4 (.slice (some ⟨g, 0, none⟩) l.length cap) l.length (flatA (l.set ka y))) (hb : Below B W0 w') : Swp base W0 B g cap l ka kb x y xv (L.setIfInBounds 13 true) a w' := by
  have _ := hnd
  have hd := fun j => done_set (L := L) (i := 13) (by omega) j
  have n15 : ¬ done L 15 := fun h1 => hnd (h.o15 h1)
  exact {
    df := h.df
    sz := h.sz
    kp := h.kp
    bel := hb
    o13 := fun _ => by simp [hd, d7, d11]
    o15 := fun _ => by simp [hd]
    row0 := fun h1 => absurd (by simp [hd]) h1
    row1 := fun _ _ => hr
    row2 := fun h1 => absurd (by simpa [hd] using h1) n15
    p0 := fun h1 => h.p0 (by simpa [hd] using h1)
    p1 := fun h1 => h.p1 (by simpa [hd] using h1)
    p2 := fun h1 => h.p2 (by simpa [hd] using h1)
    p3 := fun h1 => h.p3 (by simpa [hd] using h1)
    p4 := fun h1 => h.p4 (by simpa [hd] using h1)
    p5 := fun h1 => h.p5 (by simpa [hd] using h1)
    p6 := fun h1 => h.p6 (by simpa [hd] using h1)
    p7 := fun h1 => h.p7 (by simpa [hd] using h1)
    p8 := fun h1 => h.p8 (by simpa [hd] using h1)
    p9 := fun h1 => h.p9 (by simpa [hd] using h1)
    p10 := fun h1 => h.p10 (by simpa [hd] using h1)
    p11 := fun h1 => h.p11 (by simpa [hd] using h1)
    p12 := fun h1 => h.p12 (by simpa [hd] using h1)
    p14 := fun h1 => h.p14 (by simpa [hd] using h1)
  }
theorem Swp_14 {base : Array Value} {W0 : World} {B g cap : Nat} {l : List A4} {ka kb : Nat} {x y : A4} {xv : Value} {L : Array Bool} {a : Act} {w : World} {v : Value} (h : Swp base W0 B g cap l ka kb x y xv L a w) (hL : L.size = 16) (hv : v = .pointer (some ⟨g, kb * 4, none⟩)) : Swp base W0 B g cap l ka kb x y xv (L.setIfInBounds 14 true) (a.put (some 87) v) w := by
  have hd := fun j => done_set (L := L) (i := 14) (by omega) j
  have hs : 87 < a.tmps.size := by rw [h.sz]; decide
  have he := fun j => eval_put a 87 v j hs
  exact {
    df := h.df
    sz := (size_put a 87 v).trans h.sz
    kp := fun j h1 => (get_put a 87 v j (by omega)).trans (h.kp j h1)
    bel := h.bel
    o13 := fun h1 => by have h2 := h.o13 (by simpa [hd] using h1); simp [hd, h2]
    o15 := fun h1 => by have h2 := h.o15 (by simpa [hd] using h1); simp [hd, h2]
    row0 := fun h1 => h.row0 (by simpa [hd] using h1)
    row1 := fun h1 h2 => h.row1 (by simpa [hd] using h1) (by simpa [hd] using h2)
    row2 := fun h1 => h.row2 (by simpa [hd] using h1)
    p0 := fun h1 => by rw [he, if_neg (by decide)]; exact h.p0 (by simpa [hd] using h1)
    p1 := fun h1 => by rw [he, if_neg (by decide)]; exact h.p1 (by simpa [hd] using h1)
    p2 := fun h1 => by rw [he, if_neg (by decide)]; exact h.p2 (by simpa [hd] using h1)
    p3 := fun h1 => by rw [he, if_neg (by decide)]; exact h.p3 (by simpa [hd] using h1)
    p4 := fun h1 => by rw [he, if_neg (by decide)]; exact h.p4 (by simpa [hd] using h1)
    p5 := fun h1 => by rw [he, if_neg (by decide)]; exact h.p5 (by simpa [hd] using h1)
    p6 := fun h1 => by rw [he, if_neg (by decide)]; exact h.p6 (by simpa [hd] using h1)
    p7 := fun h1 => by rw [he, if_neg (by decide)]; exact h.p7 (by simpa [hd] using h1)
    p8 := fun h1 => by rw [he, if_neg (by decide)]; exact h.p8 (by simpa [hd] using h1)
    p9 := fun h1 => by rw [he, if_neg (by decide)]; exact h.p9 (by simpa [hd] using h1)
    p10 := fun h1 => by rw [he, if_neg (by decide)]; exact h.p10 (by simpa [hd] using h1)
    p11 := fun h1 => by rw [he, if_neg (by decide)]; exact h.p11 (by simpa [hd] using h1)
    p12 := fun h1 => by rw [he, if_neg (by decide)]; exact h.p12 (by simpa [hd] using h1)
    p14 := fun _ => by rw [he, if_pos rfl]; exact hv
  }
theorem Swp_15 {base : Array Value} {W0 : World} {B g cap : Nat} {l : List A4} {ka kb : Nat} {x y : A4} {xv : Value} {L : Array Bool} {a : Act} {w : World} {w' : World} (h : Swp base W0 B g cap l ka kb x y xv L a w) (hL : L.size = 16) (hnd : ¬ done L 15) (d13 : done L 13) (hr : w'.ownsRow B 25 4 (.slice (some ⟨g, 0, none⟩) l.length cap) l.length (flatA ((l.set ka y).set kb x))) (hb : Below B W0 w') : Swp base W0 B g cap l ka kb x y xv (L.setIfInBounds 15 true) a w' := by
  have _ := hnd
  have hd := fun j => done_set (L := L) (i := 15) (by omega) j
  exact {
    df := h.df
    sz := h.sz
    kp := h.kp
    bel := hb
    o13 := fun h1 => by have h2 := h.o13 (by simpa [hd] using h1); simp [hd, h2]
    o15 := fun _ => by simp [hd, d13]
    row0 := fun h1 => absurd (by simp [hd, d13]) h1
    row1 := fun _ h1 => absurd (by simp [hd]) h1
    row2 := fun _ => hr
    p0 := fun h1 => h.p0 (by simpa [hd] using h1)
    p1 := fun h1 => h.p1 (by simpa [hd] using h1)
    p2 := fun h1 => h.p2 (by simpa [hd] using h1)
    p3 := fun h1 => h.p3 (by simpa [hd] using h1)
    p4 := fun h1 => h.p4 (by simpa [hd] using h1)
    p5 := fun h1 => h.p5 (by simpa [hd] using h1)
    p6 := fun h1 => h.p6 (by simpa [hd] using h1)
    p7 := fun h1 => h.p7 (by simpa [hd] using h1)
    p8 := fun h1 => h.p8 (by simpa [hd] using h1)
    p9 := fun h1 => h.p9 (by simpa [hd] using h1)
    p10 := fun h1 => h.p10 (by simpa [hd] using h1)
    p11 := fun h1 => h.p11 (by simpa [hd] using h1)
    p12 := fun h1 => h.p12 (by simpa [hd] using h1)
    p14 := fun h1 => h.p14 (by simpa [hd] using h1)
  }
set_option maxRecDepth 100000 in
set_option maxHeartbeats 4000000 in
theorem Swp_any (Q : Exit → Act → World → Prop) (base : Array Value) (W0 W1 : World) (B g cap : Nat) (l : List A4) (ka kb : Nat) (x y : A4) (hb : base.size = 126)
    (b15 : base[15]? = some (.slice (some ⟨g, 0, none⟩) l.length cap)) (b13 : base[13]? = some (.int .i64 (ka : Nat))) (b14 : base[14]? = some (.int .i64 (kb : Nat)))
    (hB : B ≤ g) (h0 : Below B W0 W1) (hr : W1.ownsRow B 25 4 (.slice (some ⟨g, 0, none⟩) l.length cap) l.length (flatA l)) (hx : l[ka]? = some x) (hy : l[kb]? = some y)
    (hQ : ∀ a w', a.defers = [] → a.tmps.size = 126 → (∀ j, (j < 74 ∨ 87 < j) → a.tmps[j]? = base[j]?) → Below B W0 w' →
      w'.ownsRow B 25 4 (.slice (some ⟨g, 0, none⟩) l.length cap) l.length (flatA ((l.set ka y).set kb x)) → Q .normal a w') :
    Code.wp Tryd.prog names13 Q ⟨base, []⟩ W1 := by
  have la := (List.getElem?_eq_some_iff.1 hx).1
  have lb := (List.getElem?_eq_some_iff.1 hy).1
  have IX : ∀ (k : Nat) (w : World), k < l.length → (Instr.indexAt 26 (.slice (some ⟨g, 0, none⟩) l.length cap) (.int .i64 (k : Nat))).run Tryd.prog w = .ok (.pointer (some ⟨g, k * 4, none⟩)) w := fun k w hk => by
    have e : (⟨g, 0, none⟩ : Addr).add (k * 4) = ⟨g, k * 4, none⟩ := by unfold Addr.add; split <;> simp_all
    rw [index_runA ⟨g, 0, none⟩ k l.length cap hk w, e]
  conv => arg 2; whnf
  refine region_inv (fun L a w => Swp base W0 B g cap l ka kb x y (.slice (some ⟨g, 0, none⟩) l.length cap) L a w) (by kernel_rfl) (by kernel_rfl) ?_ ?_ ?_
  · have nd := fun j => none_done 16 j
    exact {
      df := rfl
      sz := hb
      kp := fun j _ => rfl
      bel := h0.drew
      o13 := fun h => absurd h (nd _)
      o15 := fun h => absurd h (nd _)
      row0 := fun _ => own_on hr (Below.refl _ _).drew
      row1 := fun h => absurd h (nd _)
      row2 := fun h => absurd h (nd _)
      p0 := fun h => absurd h (nd _)
      p1 := fun h => absurd h (nd _)
      p2 := fun h => absurd h (nd _)
      p3 := fun h => absurd h (nd _)
      p4 := fun h => absurd h (nd _)
      p5 := fun h => absurd h (nd _)
      p6 := fun h => absurd h (nd _)
      p7 := fun h => absurd h (nd _)
      p8 := fun h => absurd h (nd _)
      p9 := fun h => absurd h (nd _)
      p10 := fun h => absurd h (nd _)
      p11 := fun h => absurd h (nd _)
      p12 := fun h => absurd h (nd _)
      p14 := fun h => absurd h (nd _) }
  · intro L a w i o hL h ho hnd hdep
    have hL2 : L.size = 16 := hL
    have hlt : i < 16 := (List.getElem?_eq_some_iff.1 ho).1
    have e15 : a.eval (.tmp 15) = .slice (some ⟨g, 0, none⟩) l.length cap := eval_get (h.kp 15 (by decide)) b15
    have e13 : a.eval (.tmp 13) = .int .i64 (ka : Nat) := eval_get (h.kp 13 (by decide)) b13
    have e14 : a.eval (.tmp 14) = .int .i64 (kb : Nat) := eval_get (h.kp 14 (by decide)) b14
    match i, hlt, ho, hnd, hdep with
    | 0, _, ho, hnd, hdep =>
      obtain rfl := Option.some.inj ho
      exact op_value ho rfl (v := a.eval (.tmp 15)) (w' := w) (ex_move _ _ (.tmp 15) rfl w) (Swp_0 h hL2 e15)
    | 1, _, ho, hnd, hdep =>
      obtain rfl := Option.some.inj ho
      exact op_value ho rfl (v := a.eval (.tmp 13)) (w' := w) (ex_move _ _ (.tmp 13) rfl w) (Swp_1 h hL2 e13)
    | 2, _, ho, hnd, hdep =>
      obtain rfl := Option.some.inj ho
      exact op_value ho rfl (v := a.eval (.tmp 15)) (w' := w) (ex_move _ _ (.tmp 15) rfl w) (Swp_2 h hL2 e15)
    | 3, _, ho, hnd, hdep =>
      obtain rfl := Option.some.inj ho
      exact op_value ho rfl (v := a.eval (.tmp 14)) (w' := w) (ex_move _ _ (.tmp 14) rfl w) (Swp_3 h hL2 e14)
    | 4, _, ho, hnd, hdep =>
      obtain rfl := Option.some.inj ho
      exact op_value ho rfl (v := a.eval (.tmp 15)) (w' := w) (ex_move _ _ (.tmp 15) rfl w) (Swp_4 h hL2 e15)
    | 5, _, ho, hnd, hdep =>
      obtain rfl := Option.some.inj ho
      exact op_value ho rfl (v := a.eval (.tmp 14)) (w' := w) (ex_move _ _ (.tmp 14) rfl w) (Swp_5 h hL2 e14)
    | 6, _, ho, hnd, hdep =>
      obtain rfl := Option.some.inj ho
      have f1 := h.p4 (hdep ⟨4, .data⟩ (by simp) rfl)
      have f2 := h.p5 (hdep ⟨5, .data⟩ (by simp) rfl)
      exact op_value ho rfl (v := .pointer (some ⟨g, kb * 4, none⟩)) (w' := w) (ex_index _ _ 26 (.tmp 78) (.tmp 79) rfl (by rw [f1, f2]; exact IX kb w lb)) (Swp_6 h hL2 rfl)
    | 7, _, ho, hnd, hdep =>
      obtain rfl := Option.some.inj ho
      have f1 := h.p6 (hdep ⟨6, .data⟩ (by simp) rfl)
      exact op_value ho rfl (v := av y) (w' := w) (ex_load _ _ 25 (.tmp 80) rfl (by rw [f1]; exact load_el (h.row0 (fun d => hnd (h.o13 d).1)) hy)) (Swp_7 h hL2 rfl)
    | 8, _, ho, hnd, hdep =>
      obtain rfl := Option.some.inj ho
      exact op_value ho rfl (v := a.eval (.tmp 15)) (w' := w) (ex_move _ _ (.tmp 15) rfl w) (Swp_8 h hL2 e15)
    | 9, _, ho, hnd, hdep =>
      obtain rfl := Option.some.inj ho
      exact op_value ho rfl (v := a.eval (.tmp 13)) (w' := w) (ex_move _ _ (.tmp 13) rfl w) (Swp_9 h hL2 e13)
    | 10, _, ho, hnd, hdep =>
      obtain rfl := Option.some.inj ho
      have f1 := h.p8 (hdep ⟨8, .data⟩ (by simp) rfl)
      have f2 := h.p9 (hdep ⟨9, .data⟩ (by simp) rfl)
      exact op_value ho rfl (v := .pointer (some ⟨g, ka * 4, none⟩)) (w' := w) (ex_index _ _ 26 (.tmp 82) (.tmp 83) rfl (by rw [f1, f2]; exact IX ka w la)) (Swp_10 h hL2 rfl)
    | 11, _, ho, hnd, hdep =>
      obtain rfl := Option.some.inj ho
      have f1 := h.p10 (hdep ⟨10, .data⟩ (by simp) rfl)
      exact op_value ho rfl (v := av x) (w' := w) (ex_load _ _ 25 (.tmp 84) rfl (by rw [f1]; exact load_el (h.row0 (fun d => hnd (h.o13 d).2)) hx)) (Swp_11 h hL2 rfl)
    | 12, _, ho, hnd, hdep =>
      obtain rfl := Option.some.inj ho
      have f1 := h.p0 (hdep ⟨0, .data⟩ (by simp) rfl)
      have f2 := h.p1 (hdep ⟨1, .data⟩ (by simp) rfl)
      exact op_value ho rfl (v := .pointer (some ⟨g, ka * 4, none⟩)) (w' := w) (ex_index _ _ 26 (.tmp 74) (.tmp 75) rfl (by rw [f1, f2]; exact IX ka w la)) (Swp_12 h hL2 rfl)
    | 13, _, ho, hnd, hdep =>
      obtain rfl := Option.some.inj ho
      have d7 := hdep ⟨7, .data⟩ (by simp) rfl
      have d11 := hdep ⟨11, .phase⟩ (by simp) rfl
      have f1 := h.p12 (hdep ⟨12, .data⟩ (by simp) rfl)
      have f2 := h.p7 d7
      obtain ⟨w', r1, r2, r3⟩ := store_el (k := ka) y rfl (h.row0 hnd) la hB
      exact op_store 25 (.tmp 86) (.tmp 81) ho rfl rfl rfl f1 f2 r1 (Swp_13 h hL2 hnd d7 d11 r2 (r3 _ h.bel))
    | 14, _, ho, hnd, hdep =>
      obtain rfl := Option.some.inj ho
      have f1 := h.p2 (hdep ⟨2, .data⟩ (by simp) rfl)
      have f2 := h.p3 (hdep ⟨3, .data⟩ (by simp) rfl)
      exact op_value ho rfl (v := .pointer (some ⟨g, kb * 4, none⟩)) (w' := w) (ex_index _ _ 26 (.tmp 76) (.tmp 77) rfl (by rw [f1, f2]; exact IX kb w lb)) (Swp_14 h hL2 rfl)
    | 15, _, ho, hnd, hdep =>
      obtain rfl := Option.some.inj ho
      have d13 := hdep ⟨13, .chain⟩ (by simp) rfl
      have f1 := h.p14 (hdep ⟨14, .data⟩ (by simp) rfl)
      have f2 := h.p11 (hdep ⟨11, .data⟩ (by simp) rfl)
      obtain ⟨w', r1, r2, r3⟩ := store_el (k := kb) x (by simp) (h.row1 d13 hnd) (by simpa using lb) hB
      exact op_store 25 (.tmp 87) (.tmp 85) ho rfl rfl rfl f1 f2 r1 (Swp_15 h hL2 hnd d13 r2 (r3 _ h.bel))
  · intro L a w h hd
    exact hQ a w h.df h.sz h.kp h.bel (h.row2 (hd 15 (by decide)))
end Go.Proofs.YtpmhnmdienlgoaaDoor.At
