/-
  The law TupleNames: one element twice, in whatever order the operations are taken. Condition: the contracts of package tuple; numbers of 64 bits; lists no longer than a machine holds.
-/
import Derived.Test.YtpmhnmdienlgoaaDoorAtPutsG
import Derived.Deep.Cut
import Derived.Deep.CutBlock
namespace Go.Proofs.YtpmhnmdienlgoaaDoor.At
open Go.RowKit Go.Sort Go.Proofs.YtpmhnmdienlgoaaDoor.Va Go.Proofs.YtpmhnmdienlgoaaDoor.In Go.Proofs.YtpmhnmdienlgoaaDoor.Rg

noncomputable def names14 : Code := ((Tryd.f6.body.bind (findRegion 14)).getD .skip)
theorem ex_len (ρ : Operand → Value) (o : Oper) (x : Operand) (ho : o.op = .call { callee := .builtin .len, args := #[x], argTypes := #[26] }) {ao : Option Addr} {m c : Nat} (hx : ρ x = .slice ao m c) (_hm : m ≤ 1000) (w : World) :
    (execOp ρ o).run Tryd.prog w = .ok (.value (.int .i64 (m : Nat))) w := by
  simp [execOp, ho, resolve, invoke, builtin, hx, go_sem, Builtin.len_]
theorem ex_sub1 (ρ : Operand → Value) (o : Oper) (x : Operand) (ho : o.op = .binOp .sub 3 x (.const (.int .i64 1)) 3) {k : Nat} (hx : ρ x = .int .i64 k) (hk : k ≤ 1000) (w : World) (hc : ρ (.const (.int .i64 1)) = .int .i64 1 := by rfl) :
    (execOp ρ o).run Tryd.prog w = .ok (.value (.int .i64 ((k : Nat) - 1))) w := by
  have h0 : (0 : Int) ≤ k := by omega
  have h1 : (k : Int) ≤ 1000 := by omega
  have h2 : IntKind.i64.wrap ((k : Int) - 1) = (k : Int) - 1 := IntWalk.i64_in _ (by omega)
  simp [execOp, ho, hx, hc, go_sem, h2]

/-- What holds while the region runs: L: which operations are done. -/
structure Twc (base : Array Value) (W0 : World) (lv : Value) (ao : Option Addr) (m c : Nat) (p : Addr) (xn : ByteArray) (xt : Bool) (xi : Int) (xs : ByteArray) (ys : List Value) (L : Array Bool) (a : Act) (w : World) : Prop where
  df : a.defers = []
  sz : a.tmps.size = base.size
  kp : ∀ j, j ≠ 16 → (j < 88 ∨ 98 < j) → a.tmps[j]? = base[j]?
  bel : Below W0.heap.size W0 w
  q12 : a.eval (.tmp 12) = lv
  o2 : done L 2 → done L 0 ∧ done L 1
  o10 : done L 10 → done L 2 ∧ done L 9
  o11 : done L 11 → done L 10
  p0 : done L 0 → ¬ done L 2 → w.ownsRow W0.heap.size 25 4 (a.eval (.tmp 88)) (0) ([])
  p1 : done L 1 → a.eval (.tmp 89) = lv
  p2 : done L 2 → ¬ done L 10 → w.ownsRow W0.heap.size 25 4 (a.eval (.tmp 90)) (m) (ys)
  p3 : done L 3 → a.eval (.tmp 91) = lv
  p4 : done L 4 → a.eval (.tmp 92) = lv
  p5 : done L 5 → a.eval (.tmp 93) = .int .i64 (m : Nat)
  p6 : done L 6 → a.eval (.tmp 94) = .int .i64 ((m : Nat) - 1)
  p7 : done L 7 → a.eval (.tmp 95) = .pointer (some p)
  p8 : done L 8 → a.eval (.tmp 96) = av (xn, xt, xi, xs)
  p9 : done L 9 → ¬ done L 10 → ∃ g, W0.heap.size ≤ g ∧ a.eval (.tmp 97) = .slice (some ⟨g, 0, none⟩) 1 1 ∧ w.heap[g]? = some (.cells #[.string xn, .bool xt, .int .i64 xi, .string xs] 25 (0, 0)) ∧ (done L 0 → ¬ done L 2 → (a.eval (.tmp 88)).ownBlock ≠ some g)
  p10 : done L 10 → ¬ done L 11 → w.ownsRow W0.heap.size 25 4 (a.eval (.tmp 98)) (m + 1) (ys ++ [.string xn, .bool xt, .int .i64 xi, .string xs])
  p11 : done L 11 → w.ownsRow W0.heap.size 25 4 (a.eval (.tmp 16)) (m + 1) (ys ++ [.string xn, .bool xt, .int .i64 xi, .string xs])

set_option maxHeartbeats 1000000 in
theorem Twc_0 {base : Array Value} {W0 : World} {lv : Value} {ao : Option Addr} {m c : Nat} {p : Addr} {xn : ByteArray} {xt : Bool} {xi : Int} {xs : ByteArray} {ys : List Value} {L : Array Bool} {a : Act} {w w' : World} {v : Value} (h : Twc base W0 lv ao m c p xn xt xi xs ys L a w) (hL : L.size = 12) (hb : base.size = 126) (hnd : ¬ done L 0) (hv : v = .slice (some ⟨w.heap.size, 0, none⟩) 0 0) :
    Twc base W0 lv ao m c p xn xt xi xs ys (L.setIfInBounds 0 true) (a.put (some 88) v) (w.alloc (.cells #[] 25)) := by
  have _ := hnd
  have _ := w'
  have hd := fun j => done_set (L := L) (i := 0) (by omega) j
  have hs : 88 < a.tmps.size := by rw [h.sz]; omega
  have he := fun j => eval_put a 88 v j hs
  have n0 := hnd
  have n2 : ¬ done L 2 := fun x => n0 (h.o2 x).1
  have n10 : ¬ done L 10 := fun x => n2 (h.o10 x).1
  have n11 : ¬ done L 11 := fun x => n10 (h.o11 x)
  exact {
    df := by simpa [Act.put] using h.df
    sz := by rw [size_put]; exact h.sz
    kp := fun j h1 h2 => (get_put a 88 v j (by omega)).trans (h.kp j h1 h2)
    bel := h.bel.alloc h.bel.size _
    q12 := by rw [he]; exact h.q12
    o2 := fun h1 => by have h2 := h.o2 (by simpa [hd] using h1); simp [hd, h2]
    o10 := fun h1 => by have h2 := h.o10 (by simpa [hd] using h1); simp [hd, h2]
    o11 := fun h1 => by have h2 := h.o11 (by simpa [hd] using h1); simp [hd, h2]
    p0 := fun _ _ => by rw [he, if_pos rfl, hv]; exact World.ownsRow_made w #[] 0 h.bel.size (by decide) rfl
    p1 := by simpa [hd, he] using h.p1
    p2 := fun h1 _ => absurd (by simpa [hd] using h1) n2
    p3 := by simpa [hd, he] using h.p3
    p4 := by simpa [hd, he] using h.p4
    p5 := by simpa [hd, he] using h.p5
    p6 := by simpa [hd, he] using h.p6
    p7 := by simpa [hd, he] using h.p7
    p8 := by simpa [hd, he] using h.p8
    p9 := fun h1 h2 => by
      obtain ⟨g, g1, g2, g3, g4⟩ := h.p9 (by simpa [hd] using h1) (by simpa [hd] using h2)
      have hlt := lt_of_heap g3
      refine ⟨g, g1, by rw [he]; simpa using g2, by rw [Below.heap_alloc _ _ _ hlt]; exact g3, fun _ _ => ?_⟩
      rw [he, if_pos rfl, hv]
      simp [Value.ownBlock]
      omega
    p10 := fun h1 _ => absurd (by simpa [hd] using h1) n10
    p11 := fun h1 => absurd (by simpa [hd] using h1) n11
  }

set_option maxHeartbeats 1000000 in
theorem Twc_1 {base : Array Value} {W0 : World} {lv : Value} {ao : Option Addr} {m c : Nat} {p : Addr} {xn : ByteArray} {xt : Bool} {xi : Int} {xs : ByteArray} {ys : List Value} {L : Array Bool} {a : Act} {w w' : World} {v : Value} (h : Twc base W0 lv ao m c p xn xt xi xs ys L a w) (hL : L.size = 12) (hb : base.size = 126) (hnd : ¬ done L 1) (hv : v = lv) :
    Twc base W0 lv ao m c p xn xt xi xs ys (L.setIfInBounds 1 true) (a.put (some 89) v) w := by
  have _ := hnd
  have _ := w'
  have hd := fun j => done_set (L := L) (i := 1) (by omega) j
  have hs : 89 < a.tmps.size := by rw [h.sz]; omega
  have he := fun j => eval_put a 89 v j hs
  exact {
    df := by simpa [Act.put] using h.df
    sz := by rw [size_put]; exact h.sz
    kp := fun j h1 h2 => (get_put a 89 v j (by omega)).trans (h.kp j h1 h2)
    bel := h.bel
    q12 := by rw [he]; exact h.q12
    o2 := fun h1 => by have h2 := h.o2 (by simpa [hd] using h1); simp [hd, h2]
    o10 := fun h1 => by have h2 := h.o10 (by simpa [hd] using h1); simp [hd, h2]
    o11 := fun h1 => by have h2 := h.o11 (by simpa [hd] using h1); simp [hd, h2]
    p0 := by simpa [hd, he] using h.p0
    p1 := fun _ => by rw [he]; simpa using hv
    p2 := by simpa [hd, he] using h.p2
    p3 := by simpa [hd, he] using h.p3
    p4 := by simpa [hd, he] using h.p4
    p5 := by simpa [hd, he] using h.p5
    p6 := by simpa [hd, he] using h.p6
    p7 := by simpa [hd, he] using h.p7
    p8 := by simpa [hd, he] using h.p8
    p9 := by simpa [hd, he] using h.p9
    p10 := by simpa [hd, he] using h.p10
    p11 := by simpa [hd, he] using h.p11
  }

set_option maxHeartbeats 1000000 in
theorem Twc_2 {base : Array Value} {W0 : World} {lv : Value} {ao : Option Addr} {m c : Nat} {p : Addr} {xn : ByteArray} {xt : Bool} {xi : Int} {xs : ByteArray} {ys : List Value} {L : Array Bool} {a : Act} {w w' : World} {v : Value} (h : Twc base W0 lv ao m c p xn xt xi xs ys L a w) (hL : L.size = 12) (hb : base.size = 126) (hnd : ¬ done L 2) (d0 : done L 0) (d1 : done L 1) (hv : w'.ownsRow W0.heap.size 25 4 v (m) (ys)) (hg : w.grownBy w' (a.eval (.tmp 88)).ownBlock) :
    Twc base W0 lv ao m c p xn xt xi xs ys (L.setIfInBounds 2 true) (a.put (some 90) v) w' := by
  have _ := hnd
  have _ := w'
  have hd := fun j => done_set (L := L) (i := 2) (by omega) j
  have hs : 90 < a.tmps.size := by rw [h.sz]; omega
  have he := fun j => eval_put a 90 v j hs
  have n2 := hnd
  have n10 : ¬ done L 10 := fun x => n2 (h.o10 x).1
  have n11 : ¬ done L 11 := fun x => n10 (h.o11 x)
  exact {
    df := by simpa [Act.put] using h.df
    sz := by rw [size_put]; exact h.sz
    kp := fun j h1 h2 => (get_put a 90 v j (by omega)).trans (h.kp j h1 h2)
    bel := h.bel.grown hg h.bel.size (fun j hj => ((h.p0 d0 hnd).lt j hj).1)
    q12 := by rw [he]; exact h.q12
    o2 := fun _ => by simp [hd, d0, d1]
    o10 := fun h1 => by have h2 := h.o10 (by simpa [hd] using h1); simp [hd, h2]
    o11 := fun h1 => by have h2 := h.o11 (by simpa [hd] using h1); simp [hd, h2]
    p0 := fun _ h2 => absurd (by simp [hd]) h2
    p1 := by simpa [hd, he] using h.p1
    p2 := fun _ _ => by rw [he, if_pos rfl]; exact hv
    p3 := by simpa [hd, he] using h.p3
    p4 := by simpa [hd, he] using h.p4
    p5 := by simpa [hd, he] using h.p5
    p6 := by simpa [hd, he] using h.p6
    p7 := by simpa [hd, he] using h.p7
    p8 := by simpa [hd, he] using h.p8
    p9 := fun h1 h2 => by
      obtain ⟨g, g1, g2, g3, g4⟩ := h.p9 (by simpa [hd] using h1) (by simpa [hd] using h2)
      refine ⟨g, g1, by rw [he]; simpa using g2, (hg.block g (lt_of_heap g3) (fun e => g4 d0 hnd e.symm)).trans g3, fun _ h4 => absurd (by simp [hd]) h4⟩
    p10 := fun h1 _ => absurd (by simpa [hd] using h1) n10
    p11 := fun h1 => absurd (by simpa [hd] using h1) n11
  }

set_option maxHeartbeats 1000000 in
theorem Twc_3 {base : Array Value} {W0 : World} {lv : Value} {ao : Option Addr} {m c : Nat} {p : Addr} {xn : ByteArray} {xt : Bool} {xi : Int} {xs : ByteArray} {ys : List Value} {L : Array Bool} {a : Act} {w w' : World} {v : Value} (h : Twc base W0 lv ao m c p xn xt xi xs ys L a w) (hL : L.size = 12) (hb : base.size = 126) (hnd : ¬ done L 3) (hv : v = lv) :
    Twc base W0 lv ao m c p xn xt xi xs ys (L.setIfInBounds 3 true) (a.put (some 91) v) w := by
  have _ := hnd
  have _ := w'
  have hd := fun j => done_set (L := L) (i := 3) (by omega) j
  have hs : 91 < a.tmps.size := by rw [h.sz]; omega
  have he := fun j => eval_put a 91 v j hs
  exact {
    df := by simpa [Act.put] using h.df
    sz := by rw [size_put]; exact h.sz
    kp := fun j h1 h2 => (get_put a 91 v j (by omega)).trans (h.kp j h1 h2)
    bel := h.bel
    q12 := by rw [he]; exact h.q12
    o2 := fun h1 => by have h2 := h.o2 (by simpa [hd] using h1); simp [hd, h2]
    o10 := fun h1 => by have h2 := h.o10 (by simpa [hd] using h1); simp [hd, h2]
    o11 := fun h1 => by have h2 := h.o11 (by simpa [hd] using h1); simp [hd, h2]
    p0 := by simpa [hd, he] using h.p0
    p1 := by simpa [hd, he] using h.p1
    p2 := by simpa [hd, he] using h.p2
    p3 := fun _ => by rw [he]; simpa using hv
    p4 := by simpa [hd, he] using h.p4
    p5 := by simpa [hd, he] using h.p5
    p6 := by simpa [hd, he] using h.p6
    p7 := by simpa [hd, he] using h.p7
    p8 := by simpa [hd, he] using h.p8
    p9 := by simpa [hd, he] using h.p9
    p10 := by simpa [hd, he] using h.p10
    p11 := by simpa [hd, he] using h.p11
  }

set_option maxHeartbeats 1000000 in
theorem Twc_4 {base : Array Value} {W0 : World} {lv : Value} {ao : Option Addr} {m c : Nat} {p : Addr} {xn : ByteArray} {xt : Bool} {xi : Int} {xs : ByteArray} {ys : List Value} {L : Array Bool} {a : Act} {w w' : World} {v : Value} (h : Twc base W0 lv ao m c p xn xt xi xs ys L a w) (hL : L.size = 12) (hb : base.size = 126) (hnd : ¬ done L 4) (hv : v = lv) :
    Twc base W0 lv ao m c p xn xt xi xs ys (L.setIfInBounds 4 true) (a.put (some 92) v) w := by
  have _ := hnd
  have _ := w'
  have hd := fun j => done_set (L := L) (i := 4) (by omega) j
  have hs : 92 < a.tmps.size := by rw [h.sz]; omega
  have he := fun j => eval_put a 92 v j hs
  exact {
    df := by simpa [Act.put] using h.df
    sz := by rw [size_put]; exact h.sz
    kp := fun j h1 h2 => (get_put a 92 v j (by omega)).trans (h.kp j h1 h2)
    bel := h.bel
    q12 := by rw [he]; exact h.q12
    o2 := fun h1 => by have h2 := h.o2 (by simpa [hd] using h1); simp [hd, h2]
    o10 := fun h1 => by have h2 := h.o10 (by simpa [hd] using h1); simp [hd, h2]
    o11 := fun h1 => by have h2 := h.o11 (by simpa [hd] using h1); simp [hd, h2]
    p0 := by simpa [hd, he] using h.p0
    p1 := by simpa [hd, he] using h.p1
    p2 := by simpa [hd, he] using h.p2
    p3 := by simpa [hd, he] using h.p3
    p4 := fun _ => by rw [he]; simpa using hv
    p5 := by simpa [hd, he] using h.p5
    p6 := by simpa [hd, he] using h.p6
    p7 := by simpa [hd, he] using h.p7
    p8 := by simpa [hd, he] using h.p8
    p9 := by simpa [hd, he] using h.p9
    p10 := by simpa [hd, he] using h.p10
    p11 := by simpa [hd, he] using h.p11
  }

set_option maxHeartbeats 1000000 in
theorem Twc_5 {base : Array Value} {W0 : World} {lv : Value} {ao : Option Addr} {m c : Nat} {p : Addr} {xn : ByteArray} {xt : Bool} {xi : Int} {xs : ByteArray} {ys : List Value} {L : Array Bool} {a : Act} {w w' : World} {v : Value} (h : Twc base W0 lv ao m c p xn xt xi xs ys L a w) (hL : L.size = 12) (hb : base.size = 126) (hnd : ¬ done L 5) (hv : v = .int .i64 (m : Nat)) :
    Twc base W0 lv ao m c p xn xt xi xs ys (L.setIfInBounds 5 true) (a.put (some 93) v) w := by
  have _ := hnd
  have _ := w'
  have hd := fun j => done_set (L := L) (i := 5) (by omega) j
  have hs : 93 < a.tmps.size := by rw [h.sz]; omega
  have he := fun j => eval_put a 93 v j hs
  exact {
    df := by simpa [Act.put] using h.df
    sz := by rw [size_put]; exact h.sz
    kp := fun j h1 h2 => (get_put a 93 v j (by omega)).trans (h.kp j h1 h2)
    bel := h.bel
    q12 := by rw [he]; exact h.q12
    o2 := fun h1 => by have h2 := h.o2 (by simpa [hd] using h1); simp [hd, h2]
    o10 := fun h1 => by have h2 := h.o10 (by simpa [hd] using h1); simp [hd, h2]
    o11 := fun h1 => by have h2 := h.o11 (by simpa [hd] using h1); simp [hd, h2]
    p0 := by simpa [hd, he] using h.p0
    p1 := by simpa [hd, he] using h.p1
    p2 := by simpa [hd, he] using h.p2
    p3 := by simpa [hd, he] using h.p3
    p4 := by simpa [hd, he] using h.p4
    p5 := fun _ => by rw [he]; simpa using hv
    p6 := by simpa [hd, he] using h.p6
    p7 := by simpa [hd, he] using h.p7
    p8 := by simpa [hd, he] using h.p8
    p9 := by simpa [hd, he] using h.p9
    p10 := by simpa [hd, he] using h.p10
    p11 := by simpa [hd, he] using h.p11
  }

set_option maxHeartbeats 1000000 in
theorem Twc_6 {base : Array Value} {W0 : World} {lv : Value} {ao : Option Addr} {m c : Nat} {p : Addr} {xn : ByteArray} {xt : Bool} {xi : Int} {xs : ByteArray} {ys : List Value} {L : Array Bool} {a : Act} {w w' : World} {v : Value} (h : Twc base W0 lv ao m c p xn xt xi xs ys L a w) (hL : L.size = 12) (hb : base.size = 126) (hnd : ¬ done L 6) (hv : v = .int .i64 ((m : Nat) - 1)) :
    Twc base W0 lv ao m c p xn xt xi xs ys (L.setIfInBounds 6 true) (a.put (some 94) v) w := by
  have _ := hnd
  have _ := w'
  have hd := fun j => done_set (L := L) (i := 6) (by omega) j
  have hs : 94 < a.tmps.size := by rw [h.sz]; omega
  have he := fun j => eval_put a 94 v j hs
  exact {
    df := by simpa [Act.put] using h.df
    sz := by rw [size_put]; exact h.sz
    kp := fun j h1 h2 => (get_put a 94 v j (by omega)).trans (h.kp j h1 h2)
    bel := h.bel
    q12 := by rw [he]; exact h.q12
    o2 := fun h1 => by have h2 := h.o2 (by simpa [hd] using h1); simp [hd, h2]
    o10 := fun h1 => by have h2 := h.o10 (by simpa [hd] using h1); simp [hd, h2]
    o11 := fun h1 => by have h2 := h.o11 (by simpa [hd] using h1); simp [hd, h2]
    p0 := by simpa [hd, he] using h.p0
    p1 := by simpa [hd, he] using h.p1
    p2 := by simpa [hd, he] using h.p2
    p3 := by simpa [hd, he] using h.p3
    p4 := by simpa [hd, he] using h.p4
    p5 := by simpa [hd, he] using h.p5
    p6 := fun _ => by rw [he]; simpa using hv
    p7 := by simpa [hd, he] using h.p7
    p8 := by simpa [hd, he] using h.p8
    p9 := by simpa [hd, he] using h.p9
    p10 := by simpa [hd, he] using h.p10
    p11 := by simpa [hd, he] using h.p11
  }

set_option maxHeartbeats 1000000 in
theorem Twc_7 {base : Array Value} {W0 : World} {lv : Value} {ao : Option Addr} {m c : Nat} {p : Addr} {xn : ByteArray} {xt : Bool} {xi : Int} {xs : ByteArray} {ys : List Value} {L : Array Bool} {a : Act} {w w' : World} {v : Value} (h : Twc base W0 lv ao m c p xn xt xi xs ys L a w) (hL : L.size = 12) (hb : base.size = 126) (hnd : ¬ done L 7) (hv : v = .pointer (some p)) :
    Twc base W0 lv ao m c p xn xt xi xs ys (L.setIfInBounds 7 true) (a.put (some 95) v) w := by
  have _ := hnd
  have _ := w'
  have hd := fun j => done_set (L := L) (i := 7) (by omega) j
  have hs : 95 < a.tmps.size := by rw [h.sz]; omega
  have he := fun j => eval_put a 95 v j hs
  exact {
    df := by simpa [Act.put] using h.df
    sz := by rw [size_put]; exact h.sz
    kp := fun j h1 h2 => (get_put a 95 v j (by omega)).trans (h.kp j h1 h2)
    bel := h.bel
    q12 := by rw [he]; exact h.q12
    o2 := fun h1 => by have h2 := h.o2 (by simpa [hd] using h1); simp [hd, h2]
    o10 := fun h1 => by have h2 := h.o10 (by simpa [hd] using h1); simp [hd, h2]
    o11 := fun h1 => by have h2 := h.o11 (by simpa [hd] using h1); simp [hd, h2]
    p0 := by simpa [hd, he] using h.p0
    p1 := by simpa [hd, he] using h.p1
    p2 := by simpa [hd, he] using h.p2
    p3 := by simpa [hd, he] using h.p3
    p4 := by simpa [hd, he] using h.p4
    p5 := by simpa [hd, he] using h.p5
    p6 := by simpa [hd, he] using h.p6
    p7 := fun _ => by rw [he]; simpa using hv
    p8 := by simpa [hd, he] using h.p8
    p9 := by simpa [hd, he] using h.p9
    p10 := by simpa [hd, he] using h.p10
    p11 := by simpa [hd, he] using h.p11
  }

set_option maxHeartbeats 1000000 in
theorem Twc_8 {base : Array Value} {W0 : World} {lv : Value} {ao : Option Addr} {m c : Nat} {p : Addr} {xn : ByteArray} {xt : Bool} {xi : Int} {xs : ByteArray} {ys : List Value} {L : Array Bool} {a : Act} {w w' : World} {v : Value} (h : Twc base W0 lv ao m c p xn xt xi xs ys L a w) (hL : L.size = 12) (hb : base.size = 126) (hnd : ¬ done L 8) (hv : v = av (xn, xt, xi, xs)) :
    Twc base W0 lv ao m c p xn xt xi xs ys (L.setIfInBounds 8 true) (a.put (some 96) v) w := by
  have _ := hnd
  have _ := w'
  have hd := fun j => done_set (L := L) (i := 8) (by omega) j
  have hs : 96 < a.tmps.size := by rw [h.sz]; omega
  have he := fun j => eval_put a 96 v j hs
  exact {
    df := by simpa [Act.put] using h.df
    sz := by rw [size_put]; exact h.sz
    kp := fun j h1 h2 => (get_put a 96 v j (by omega)).trans (h.kp j h1 h2)
    bel := h.bel
    q12 := by rw [he]; exact h.q12
    o2 := fun h1 => by have h2 := h.o2 (by simpa [hd] using h1); simp [hd, h2]
    o10 := fun h1 => by have h2 := h.o10 (by simpa [hd] using h1); simp [hd, h2]
    o11 := fun h1 => by have h2 := h.o11 (by simpa [hd] using h1); simp [hd, h2]
    p0 := by simpa [hd, he] using h.p0
    p1 := by simpa [hd, he] using h.p1
    p2 := by simpa [hd, he] using h.p2
    p3 := by simpa [hd, he] using h.p3
    p4 := by simpa [hd, he] using h.p4
    p5 := by simpa [hd, he] using h.p5
    p6 := by simpa [hd, he] using h.p6
    p7 := by simpa [hd, he] using h.p7
    p8 := fun _ => by rw [he]; simpa using hv
    p9 := by simpa [hd, he] using h.p9
    p10 := by simpa [hd, he] using h.p10
    p11 := by simpa [hd, he] using h.p11
  }

set_option maxHeartbeats 1000000 in
theorem Twc_9 {base : Array Value} {W0 : World} {lv : Value} {ao : Option Addr} {m c : Nat} {p : Addr} {xn : ByteArray} {xt : Bool} {xi : Int} {xs : ByteArray} {ys : List Value} {L : Array Bool} {a : Act} {w w' : World} {v : Value} (h : Twc base W0 lv ao m c p xn xt xi xs ys L a w) (hL : L.size = 12) (hb : base.size = 126) (hnd : ¬ done L 9) (hv : v = .slice (some ⟨w.heap.size, 0, none⟩) 1 1) :
    Twc base W0 lv ao m c p xn xt xi xs ys (L.setIfInBounds 9 true) (a.put (some 97) v) (w.alloc (.cells #[.string xn, .bool xt, .int .i64 xi, .string xs] 25)) := by
  have _ := hnd
  have _ := w'
  have hd := fun j => done_set (L := L) (i := 9) (by omega) j
  have hs : 97 < a.tmps.size := by rw [h.sz]; omega
  have he := fun j => eval_put a 97 v j hs
  have n9 := hnd
  have n10 : ¬ done L 10 := fun x => n9 (h.o10 x).2
  have n11 : ¬ done L 11 := fun x => n10 (h.o11 x)
  exact {
    df := by simpa [Act.put] using h.df
    sz := by rw [size_put]; exact h.sz
    kp := fun j h1 h2 => (get_put a 97 v j (by omega)).trans (h.kp j h1 h2)
    bel := h.bel.alloc h.bel.size _
    q12 := by rw [he]; exact h.q12
    o2 := fun h1 => by have h2 := h.o2 (by simpa [hd] using h1); simp [hd, h2]
    o10 := fun h1 => by have h2 := h.o10 (by simpa [hd] using h1); simp [hd, h2]
    o11 := fun h1 => by have h2 := h.o11 (by simpa [hd] using h1); simp [hd, h2]
    p0 := fun h1 h2 => by rw [he]; simpa using (h.p0 (by simpa [hd] using h1) (by simpa [hd] using h2)).alloc _
    p1 := by simpa [hd, he] using h.p1
    p2 := fun h1 h2 => by rw [he]; simpa using (h.p2 (by simpa [hd] using h1) (by simpa [hd] using h2)).alloc _
    p3 := by simpa [hd, he] using h.p3
    p4 := by simpa [hd, he] using h.p4
    p5 := by simpa [hd, he] using h.p5
    p6 := by simpa [hd, he] using h.p6
    p7 := by simpa [hd, he] using h.p7
    p8 := by simpa [hd, he] using h.p8
    p9 := fun _ _ => by
      refine ⟨w.heap.size, h.bel.size, by rw [he, if_pos rfl, hv], heapLast w _, fun h3 h4 => ?_⟩
      · rw [he]
        intro h5
        have h6 := (h.p0 (by simpa [hd] using h3) (by simpa [hd] using h4)).lt w.heap.size (by simpa using h5)
        omega

    p10 := fun h1 _ => absurd (by simpa [hd] using h1) n10
    p11 := fun h1 => absurd (by simpa [hd] using h1) n11
  }

set_option maxHeartbeats 1000000 in
theorem Twc_10 {base : Array Value} {W0 : World} {lv : Value} {ao : Option Addr} {m c : Nat} {p : Addr} {xn : ByteArray} {xt : Bool} {xi : Int} {xs : ByteArray} {ys : List Value} {L : Array Bool} {a : Act} {w w' : World} {v : Value} (h : Twc base W0 lv ao m c p xn xt xi xs ys L a w) (hL : L.size = 12) (hb : base.size = 126) (hnd : ¬ done L 10) (d2 : done L 2) (d9 : done L 9) (hv : w'.ownsRow W0.heap.size 25 4 v (m + 1) (ys ++ [.string xn, .bool xt, .int .i64 xi, .string xs])) (hg : w.grownBy w' (a.eval (.tmp 90)).ownBlock) :
    Twc base W0 lv ao m c p xn xt xi xs ys (L.setIfInBounds 10 true) (a.put (some 98) v) w' := by
  have _ := hnd
  have _ := w'
  have hd := fun j => done_set (L := L) (i := 10) (by omega) j
  have hs : 98 < a.tmps.size := by rw [h.sz]; omega
  have he := fun j => eval_put a 98 v j hs
  have n10 := hnd
  have n11 : ¬ done L 11 := fun x => n10 (h.o11 x)
  exact {
    df := by simpa [Act.put] using h.df
    sz := by rw [size_put]; exact h.sz
    kp := fun j h1 h2 => (get_put a 98 v j (by omega)).trans (h.kp j h1 h2)
    bel := h.bel.grown hg h.bel.size (fun j hj => ((h.p2 d2 hnd).lt j hj).1)
    q12 := by rw [he]; exact h.q12
    o2 := fun h1 => by have h2 := h.o2 (by simpa [hd] using h1); simp [hd, h2]
    o10 := fun _ => by simp [hd, d2, d9]
    o11 := fun h1 => by have h2 := h.o11 (by simpa [hd] using h1); simp [hd, h2]
    p0 := fun _ h2 => absurd (by simp [hd, d2]) h2
    p1 := by simpa [hd, he] using h.p1
    p2 := fun _ h2 => absurd (by simp [hd]) h2
    p3 := by simpa [hd, he] using h.p3
    p4 := by simpa [hd, he] using h.p4
    p5 := by simpa [hd, he] using h.p5
    p6 := by simpa [hd, he] using h.p6
    p7 := by simpa [hd, he] using h.p7
    p8 := by simpa [hd, he] using h.p8
    p9 := fun _ h2 => absurd (by simp [hd]) h2
    p10 := fun _ _ => by rw [he, if_pos rfl]; exact hv
    p11 := fun h1 => absurd (by simpa [hd] using h1) n11
  }

set_option maxHeartbeats 1000000 in
theorem Twc_11 {base : Array Value} {W0 : World} {lv : Value} {ao : Option Addr} {m c : Nat} {p : Addr} {xn : ByteArray} {xt : Bool} {xi : Int} {xs : ByteArray} {ys : List Value} {L : Array Bool} {a : Act} {w w' : World} {v : Value} (h : Twc base W0 lv ao m c p xn xt xi xs ys L a w) (hL : L.size = 12) (hb : base.size = 126) (hnd : ¬ done L 11) (d10 : done L 10) (hv : v = a.eval (.tmp 98)) :
    Twc base W0 lv ao m c p xn xt xi xs ys (L.setIfInBounds 11 true) (a.put (some 16) v) w := by
  have _ := hnd
  have _ := w'
  have hd := fun j => done_set (L := L) (i := 11) (by omega) j
  have hs : 16 < a.tmps.size := by rw [h.sz]; omega
  have he := fun j => eval_put a 16 v j hs
  exact {
    df := by simpa [Act.put] using h.df
    sz := by rw [size_put]; exact h.sz
    kp := fun j h1 h2 => (get_put a 16 v j h1).trans (h.kp j h1 h2)
    bel := h.bel
    q12 := by rw [he]; exact h.q12
    o2 := fun h1 => by have h2 := h.o2 (by simpa [hd] using h1); simp [hd, h2]
    o10 := fun h1 => by have h2 := h.o10 (by simpa [hd] using h1); simp [hd, h2]
    o11 := fun _ => by simp [hd, d10]
    p0 := by simpa [hd, he] using h.p0
    p1 := by simpa [hd, he] using h.p1
    p2 := by simpa [hd, he] using h.p2
    p3 := by simpa [hd, he] using h.p3
    p4 := by simpa [hd, he] using h.p4
    p5 := by simpa [hd, he] using h.p5
    p6 := by simpa [hd, he] using h.p6
    p7 := by simpa [hd, he] using h.p7
    p8 := by simpa [hd, he] using h.p8
    p9 := by simpa [hd, he] using h.p9
    p10 := fun _ h2 => absurd (by simp [hd]) h2
    p11 := fun _ => by rw [he, if_pos rfl, hv]; exact h.p10 d10 hnd
  }

set_option maxRecDepth 100000 in
set_option maxHeartbeats 4000000 in
theorem Twc_any (Q : Exit → Act → World → Prop) (base : Array Value) (W0 : World) (lv : Value) (ao : Option Addr) (m c : Nat) (p : Addr) (xn : ByteArray) (xt : Bool) (xi : Int) (xs : ByteArray) (ys : List Value)
    (hb : base.size = 126) (b12 : base[12]? = some lv)
    (hlv : lv = .slice ao m c) (hix : ∀ w, (Instr.indexAt 26 lv (.int .i64 ((m : Nat) - 1))).run Tryd.prog w = .ok (.pointer (some p)) w)
    (hld : ∀ w, Below W0.heap.size W0 w → (Instr.loadAt 25 (.pointer (some p))).run Tryd.prog w = .ok (av (xn, xt, xi, xs)) w)
    (slv : SrcA W0 lv m ys) (oys : ∀ u ∈ ys, u.oneCell' = true) (hm : m ≤ 100)
    (hQ : ∀ a w', a.defers = [] → a.tmps.size = 126 → (∀ j, j ≠ 16 → (j < 88 ∨ 98 < j) → a.tmps[j]? = base[j]?) → Below W0.heap.size W0 w' →
      w'.ownsRow W0.heap.size 25 4 (a.eval (.tmp 16)) (m + 1) (ys ++ [.string xn, .bool xt, .int .i64 xi, .string xs]) → Q .normal a w') :
    Code.wp Tryd.prog names14 Q ⟨base, []⟩ W0 := by
  conv => arg 2; whnf
  refine region_inv (fun L a w => Twc base W0 lv ao m c p xn xt xi xs ys L a w) (by kernel_rfl) (by kernel_rfl) ?_ ?_ ?_
  · have nd := fun j => none_done 12 j
    exact {
      df := rfl
      sz := rfl
      kp := fun _ _ _ => rfl
      bel := (Below.refl _ _).drew
      q12 := eval_get rfl b12
      o2 := fun h => absurd h (nd _)
      o10 := fun h => absurd h (nd _)
      o11 := fun h => absurd h (nd _)
      p0 := fun h => absurd h (nd _)
      p1 := fun h => absurd h (nd _)
      p2 := fun h => absurd h (nd _)
      p3 := fun h => absurd h (nd _)
      p4 := fun h => absurd h (nd _)
      p5 := fun h => absurd h (nd _)
      p6 := fun h => absurd h (nd _)
      p7 := fun h => absurd h (nd _)
      p8 := fun h => absurd h (nd _)
      p9 := fun h => absurd h (nd _)
      p10 := fun h => absurd h (nd _)
      p11 := fun h => absurd h (nd _) }
  · intro L a w i o hL h ho hnd hdep
    have hL2 : L.size = 12 := hL
    have hlt : i < 12 := (List.getElem?_eq_some_iff.1 ho).1
    match i, hlt, ho, hnd, hdep with
    | 0, _, ho, hnd, hdep =>
      obtain rfl := Option.some.inj ho
      exact op_value ho rfl (ex_build _ _ _ _ _ rfl (ps := #[]) (by simp) (run_slice0A w)) (Twc_0 (w' := w) h hL2 hb hnd rfl)
    | 1, _, ho, hnd, hdep =>
      obtain rfl := Option.some.inj ho
      exact op_value ho rfl (v := a.eval (.tmp 12)) (w' := w) (ex_move _ _ (.tmp 12) rfl w) (Twc_1 (w' := w) h hL2 hb hnd h.q12)
    | 2, _, ho, hnd, hdep =>
      obtain rfl := Option.some.inj ho
      have d0 := hdep ⟨0, .data⟩ (by simp) rfl
      have d1 := hdep ⟨1, .data⟩ (by simp) rfl
      have ex := h.p1 d1
      obtain ⟨v', w', r1, r2, r3⟩ := app_runA (W := w) W0.heap.size (h.p0 d0 hnd) (slv.on h.bel) oys (by omega) (by omega) h.bel.size 26
      exact op_value ho rfl (v := v') (w' := w') (ex_append _ _ (.tmp 88) (.tmp 89) 26 rfl rfl ex r1) (Twc_2 h hL2 hb hnd d0 d1 (by simpa using r2) r3)
    | 3, _, ho, hnd, hdep =>
      obtain rfl := Option.some.inj ho
      exact op_value ho rfl (v := a.eval (.tmp 12)) (w' := w) (ex_move _ _ (.tmp 12) rfl w) (Twc_3 (w' := w) h hL2 hb hnd h.q12)
    | 4, _, ho, hnd, hdep =>
      obtain rfl := Option.some.inj ho
      exact op_value ho rfl (v := a.eval (.tmp 12)) (w' := w) (ex_move _ _ (.tmp 12) rfl w) (Twc_4 (w' := w) h hL2 hb hnd h.q12)
    | 5, _, ho, hnd, hdep =>
      obtain rfl := Option.some.inj ho
      have e1 := h.p4 (hdep ⟨4, .data⟩ (by simp) rfl)
      exact op_value ho rfl (v := .int .i64 (m : Nat)) (w' := w) (ex_len _ _ (.tmp 92) rfl (e1.trans hlv) (by omega) w) (Twc_5 (w' := w) h hL2 hb hnd rfl)
    | 6, _, ho, hnd, hdep =>
      obtain rfl := Option.some.inj ho
      have e1 := h.p5 (hdep ⟨5, .data⟩ (by simp) rfl)
      exact op_value ho rfl (v := .int .i64 ((m : Nat) - 1)) (w' := w) (ex_sub1 _ _ (.tmp 93) rfl e1 (by omega) w) (Twc_6 (w' := w) h hL2 hb hnd rfl)
    | 7, _, ho, hnd, hdep =>
      obtain rfl := Option.some.inj ho
      have e1 := h.p3 (hdep ⟨3, .data⟩ (by simp) rfl)
      have e2 := h.p6 (hdep ⟨6, .data⟩ (by simp) rfl)
      exact op_value ho rfl (v := .pointer (some p)) (w' := w) (ex_index _ _ 26 (.tmp 91) (.tmp 94) rfl (by rw [e1, e2]; exact hix w)) (Twc_7 (w' := w) h hL2 hb hnd rfl)
    | 8, _, ho, hnd, hdep =>
      obtain rfl := Option.some.inj ho
      have e1 := h.p7 (hdep ⟨7, .data⟩ (by simp) rfl)
      exact op_value ho rfl (v := av (xn, xt, xi, xs)) (w' := w) (ex_load _ _ 25 (.tmp 95) rfl (by rw [e1]; exact hld w h.bel)) (Twc_8 (w' := w) h hL2 hb hnd rfl)
    | 9, _, ho, hnd, hdep =>
      obtain rfl := Option.some.inj ho
      have e5 := h.p8 (hdep ⟨8, .data⟩ (by simp) rfl)
      exact op_value ho rfl (ex_build _ _ _ _ _ rfl (by simp only [List.map_toArray, List.map_cons, List.map_nil, e5]) (run_slice1A xn xt xi xs w)) (Twc_9 (w' := w) h hL2 hb hnd rfl)
    | 10, _, ho, hnd, hdep =>
      obtain rfl := Option.some.inj ho
      have d2 := hdep ⟨2, .data⟩ (by simp) rfl
      have d9 := hdep ⟨9, .data⟩ (by simp) rfl
      obtain ⟨g, g1, g2, g3, _⟩ := h.p9 d9 hnd
      have hsrc : SrcA w (a.eval (.tmp 97)) 1 [.string xn, .bool xt, .int .i64 xi, .string xs] := Or.inr ⟨⟨g, 0, none⟩, 1, g2, rfl, lt_of_heap g3, fun j u hj => by
        have hc : w.cell? ⟨g, j, none⟩ = (#[.string xn, .bool xt, .int .i64 xi, .string xs] : Array Value)[j]? := by simp [World.cell?, g3]
        rw [show (⟨g, 0, none⟩ : Addr).add j = ⟨g, j, none⟩ by unfold Addr.add; split <;> simp_all, hc]
        simpa using hj⟩
      obtain ⟨v', w', r1, r2, r3⟩ := app_runA (W := w) W0.heap.size (h.p2 d2 hnd) hsrc (flatA_one [(xn, xt, xi, xs)]) (by omega) (by omega) h.bel.size 26
      exact op_value ho rfl (v := v') (w' := w') (ex_append _ _ (.tmp 90) (.tmp 97) 26 rfl rfl rfl r1) (Twc_10 h hL2 hb hnd d2 d9 (by simpa using r2) r3)
    | 11, _, ho, hnd, hdep =>
      obtain rfl := Option.some.inj ho
      have d10 := hdep ⟨10, .data⟩ (by simp) rfl
      exact op_value ho rfl (v := a.eval (.tmp 98)) (w' := w) (ex_assign _ _ (.tmp 98) rfl w) (Twc_11 (w' := w) h hL2 hb hnd d10 rfl)
  · intro L a w h hd
    exact hQ a w h.df (h.sz.trans hb) h.kp h.bel (h.p11 (hd 11 (by decide)))
end Go.Proofs.YtpmhnmdienlgoaaDoor.At
