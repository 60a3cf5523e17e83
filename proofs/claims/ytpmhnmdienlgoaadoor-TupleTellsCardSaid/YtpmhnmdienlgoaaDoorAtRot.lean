/-
  One element of a list brought to its head, in whatever order the operations are taken: the list is a new row. Condition: short lists.
-/
import Derived.Test.YtpmhnmdienlgoaaDoorAtSpec
import Derived.Test.YtpmhnmdienlgoaaDoorRg
namespace Go.Proofs.YtpmhnmdienlgoaaDoor.At
open Go.RowKit Go.Proofs.YtpmhnmdienlgoaaDoor.Va Go.Proofs.YtpmhnmdienlgoaaDoor.In Go.Proofs.YtpmhnmdienlgoaaDoor.Rg

/-- A source of an append: nothing, or m attributes whose cells lie in an elder world. -/
def SrcA (W : World) (x : Value) (m : Nat) (xs : List Value) : Prop :=
  (x = .slice none 0 0 ∧ m = 0 ∧ xs = []) ∨ ∃ (ad : Addr) (c : Nat), x = .slice (some ad) m c ∧ xs.length = m * 4 ∧ ad.block < W.heap.size ∧ ∀ j u, xs[j]? = some u → W.cell? (ad.add j) = some u
theorem SrcA.on {W W' : World} {x : Value} {m : Nat} {xs : List Value} (h : SrcA W x m xs) (hb : Below W.heap.size W W') : SrcA W' x m xs := by
  rcases h with h | ⟨ad, c, h1, h2, h3, h4⟩
  · exact Or.inl h
  · exact Or.inr ⟨ad, c, h1, h2, Nat.lt_of_lt_of_le h3 hb.size, fun j u hj => by
      have h5 := h4 j u hj
      rw [hb.cell (World.block_lt_of_cell? W _ h5)]; exact h5⟩
theorem app_runA {W w : World} (B : Nat) {v x : Value} {n m : Nat} {xs ys : List Value} (hown : w.ownsRow B 25 4 v n xs) (hx : SrcA w x m ys) (h1 : ∀ u ∈ ys, u.oneCell' = true) (hn : n ≤ 1000) (hm : m ≤ 1000) (hB : B ≤ w.heap.size) (ty : TypeId) :
    ∃ v' w', (Builtin.append_ #[26, 26] ty #[v, x]).run Tryd.prog w = .ok v' w' ∧ w'.ownsRow B 25 4 v' (n + m) (xs ++ ys) ∧ w.grownBy w' v.ownBlock := by
  have _ := W
  obtain ⟨i, i1, i2, i3, i4⟩ := infoA
  rcases hx with ⟨rfl, rfl, rfl⟩ | ⟨ad, c, rfl, h2, h3, h4⟩
  · exact ⟨v, w, run_append_owned_none (P := Tryd.prog) (w := w) B 26 ty 25 i 4 Tryd.underlying26 i1 v n xs hown, by simpa using hown, grown_refl _ _⟩
  · obtain ⟨v', w', r1, r2, r3, _⟩ := run_append_own (P := Tryd.prog) w B 26 ty 25 i _ 4 48 Tryd.underlying26 i1 i2 i3 i4 rfl (by decide) v n xs hown ad m c ys h2 h4 h1 (by unfold maxLen; omega) (by omega) hB
    exact ⟨v', w', r1, r2, r3⟩
def findRegion (k : Nat) : Code → Option Code
  | .region id ops d => if id = k then some (.region id ops d) else none
  | .seq a b => match findRegion k a with
    | some c => some c
    | none => findRegion k b
  | .cond _ a b => match findRegion k a with
    | some c => some c
    | none => findRegion k b
  | .block _ c => findRegion k c
  | .loop c => findRegion k c
  | .scope c => findRegion k c
  | _ => none
noncomputable def puts7 : Code := ((Tryd.f5.body.bind (findRegion 7)).getD .skip)
theorem run_slice0A (w : World) : (Instr.buildSlice 26 0 #[]).run Tryd.prog w = .ok (.slice (some ⟨w.heap.size, 0, none⟩) 0 0) (w.alloc (.cells #[] 25)) := by
  simp [go_sem]
theorem run_slice1A (xn : ByteArray) (xt : Bool) (xi : Int) (xs : ByteArray) (w : World) : (Instr.buildSlice 26 1 #[(0, av (xn, xt, xi, xs))]).run Tryd.prog w = .ok (.slice (some ⟨w.heap.size, 0, none⟩) 1 1) (w.alloc (.cells #[.string xn, .bool xt, .int .i64 xi, .string xs] 25)) := by
  simp [go_sem]
theorem ex_add1 (ρ : Operand → Value) (o : Oper) (x : Operand) (ho : o.op = .binOp .add 3 x (.const (.int .i64 1)) 3) {k : Nat} (hx : ρ x = .int .i64 k) (hk : k ≤ 1000) (w : World) (hc : ρ (.const (.int .i64 1)) = .int .i64 1 := by rfl) :
    (execOp ρ o).run Tryd.prog w = .ok (.value (.int .i64 ((k : Nat) + 1))) w := by
  have h0 : (0 : Int) ≤ k := by omega
  have h1 : (k : Int) ≤ 1000 := by omega
  have h2 : IntKind.i64.wrap ((k : Int) + 1) = (k : Int) + 1 := IntWalk.i64_in _ (by omega)
  simp [execOp, ho, hx, hc, go_sem, h2]

/-- What holds while the region runs: L: which operations are done. -/
structure Rot (base : Array Value) (W0 : World) (lv lo hi : Value) (k m : Nat) (p : Addr) (xn : ByteArray) (xt : Bool) (xi : Int) (xs : ByteArray) (ys zs : List Value) (L : Array Bool) (a : Act) (w : World) : Prop where
  df : a.defers = []
  sz : a.tmps.size = base.size
  kp : ∀ j, j ≠ 11 → (j < 48 ∨ 63 < j) → a.tmps[j]? = base[j]?
  bel : Below W0.heap.size W0 w
  q11 : ¬ done L 16 → a.eval (.tmp 11) = lv
  q13 : a.eval (.tmp 13) = .int .i64 (k : Nat)
  o6 : done L 6 → done L 0 ∧ done L 5
  o10 : done L 10 → done L 6 ∧ done L 9
  o15 : done L 15 → done L 10 ∧ done L 14
  o16 : done L 16 → done L 15 ∧ done L 1 ∧ done L 7 ∧ done L 11
  p0 : done L 0 → ¬ done L 6 → w.ownsRow W0.heap.size 25 4 (a.eval (.tmp 48)) (0) ([])
  p1 : done L 1 → a.eval (.tmp 49) = lv
  p2 : done L 2 → a.eval (.tmp 50) = .int .i64 (k : Nat)
  p3 : done L 3 → a.eval (.tmp 51) = .pointer (some p)
  p4 : done L 4 → a.eval (.tmp 52) = av (xn, xt, xi, xs)
  p5 : done L 5 → ¬ done L 6 → ∃ g, W0.heap.size ≤ g ∧ a.eval (.tmp 53) = .slice (some ⟨g, 0, none⟩) 1 1 ∧ w.heap[g]? = some (.cells #[.string xn, .bool xt, .int .i64 xi, .string xs] 25 (0, 0))
  p6 : done L 6 → ¬ done L 10 → w.ownsRow W0.heap.size 25 4 (a.eval (.tmp 54)) (1) ([.string xn, .bool xt, .int .i64 xi, .string xs])
  p7 : done L 7 → a.eval (.tmp 55) = lv
  p8 : done L 8 → a.eval (.tmp 56) = .int .i64 (k : Nat)
  p9 : done L 9 → a.eval (.tmp 57) = lo
  p10 : done L 10 → ¬ done L 15 → w.ownsRow W0.heap.size 25 4 (a.eval (.tmp 58)) (1 + k) ([.string xn, .bool xt, .int .i64 xi, .string xs] ++ ys)
  p11 : done L 11 → a.eval (.tmp 59) = lv
  p12 : done L 12 → a.eval (.tmp 60) = .int .i64 (k : Nat)
  p13 : done L 13 → a.eval (.tmp 61) = .int .i64 ((k : Nat) + 1)
  p14 : done L 14 → a.eval (.tmp 62) = hi
  p15 : done L 15 → ¬ done L 16 → w.ownsRow W0.heap.size 25 4 (a.eval (.tmp 63)) (1 + k + m) ([.string xn, .bool xt, .int .i64 xi, .string xs] ++ ys ++ zs)
  p16 : done L 16 → w.ownsRow W0.heap.size 25 4 (a.eval (.tmp 11)) (1 + k + m) ([.string xn, .bool xt, .int .i64 xi, .string xs] ++ ys ++ zs)

set_option maxHeartbeats 1000000 in
theorem Rot_0 {base : Array Value} {W0 : World} {lv lo hi : Value} {k m : Nat} {p : Addr} {xn : ByteArray} {xt : Bool} {xi : Int} {xs : ByteArray} {ys zs : List Value} {L : Array Bool} {a : Act} {w w' : World} {v : Value} (h : Rot base W0 lv lo hi k m p xn xt xi xs ys zs L a w) (hL : L.size = 17) (hb : base.size = 142) (hnd : ¬ done L 0) (hv : v = .slice (some ⟨w.heap.size, 0, none⟩) 0 0) :
    Rot base W0 lv lo hi k m p xn xt xi xs ys zs (L.setIfInBounds 0 true) (a.put (some 48) v) (w.alloc (.cells #[] 25)) := by
  have _ := hnd
  have _ := w'
  have hd := fun j => done_set (L := L) (i := 0) (by omega) j
  have hs : 48 < a.tmps.size := by rw [h.sz]; omega
  have he := fun j => eval_put a 48 v j hs
  have n0 := hnd
  have n6 : ¬ done L 6 := fun x => n0 (h.o6 x).1
  have n10 : ¬ done L 10 := fun x => n6 (h.o10 x).1
  have n15 : ¬ done L 15 := fun x => n10 (h.o15 x).1
  have n16 : ¬ done L 16 := fun x => n15 (h.o16 x).1
  exact {
    df := by simpa [Act.put] using h.df
    sz := by rw [size_put]; exact h.sz
    kp := fun j h1 h2 => (get_put a 48 v j (by omega)).trans (h.kp j h1 h2)
    bel := h.bel.alloc h.bel.size _
    q11 := by simpa [hd, he] using h.q11
    q13 := by rw [he]; exact h.q13
    o6 := fun h1 => by have h2 := h.o6 (by simpa [hd] using h1); simp [hd, h2]
    o10 := fun h1 => by have h2 := h.o10 (by simpa [hd] using h1); simp [hd, h2]
    o15 := fun h1 => by have h2 := h.o15 (by simpa [hd] using h1); simp [hd, h2]
    o16 := fun h1 => by have h2 := h.o16 (by simpa [hd] using h1); simp [hd, h2]
    p0 := fun _ _ => by rw [he, if_pos rfl, hv]; exact World.ownsRow_made w #[] 0 h.bel.size (by decide) rfl
    p1 := by simpa [hd, he] using h.p1
    p2 := by simpa [hd, he] using h.p2
    p3 := by simpa [hd, he] using h.p3
    p4 := by simpa [hd, he] using h.p4
    p5 := fun h1 h2 => by
      obtain ⟨g, g1, g2, g3⟩ := h.p5 (by simpa [hd] using h1) (by simpa [hd] using h2)
      have hlt := lt_of_heap g3
      refine ⟨g, g1, by rw [he]; simpa using g2, by rw [Below.heap_alloc _ _ _ hlt]; exact g3⟩

    p6 := fun h1 _ => absurd (by simpa [hd] using h1) n6
    p7 := by simpa [hd, he] using h.p7
    p8 := by simpa [hd, he] using h.p8
    p9 := by simpa [hd, he] using h.p9
    p10 := fun h1 _ => absurd (by simpa [hd] using h1) n10
    p11 := by simpa [hd, he] using h.p11
    p12 := by simpa [hd, he] using h.p12
    p13 := by simpa [hd, he] using h.p13
    p14 := by simpa [hd, he] using h.p14
    p15 := fun h1 _ => absurd (by simpa [hd] using h1) n15
    p16 := fun h1 => absurd (by simpa [hd] using h1) n16
  }

set_option maxHeartbeats 1000000 in
theorem Rot_1 {base : Array Value} {W0 : World} {lv lo hi : Value} {k m : Nat} {p : Addr} {xn : ByteArray} {xt : Bool} {xi : Int} {xs : ByteArray} {ys zs : List Value} {L : Array Bool} {a : Act} {w w' : World} {v : Value} (h : Rot base W0 lv lo hi k m p xn xt xi xs ys zs L a w) (hL : L.size = 17) (hb : base.size = 142) (hnd : ¬ done L 1) (hv : v = lv) :
    Rot base W0 lv lo hi k m p xn xt xi xs ys zs (L.setIfInBounds 1 true) (a.put (some 49) v) w := by
  have _ := hnd
  have _ := w'
  have hd := fun j => done_set (L := L) (i := 1) (by omega) j
  have hs : 49 < a.tmps.size := by rw [h.sz]; omega
  have he := fun j => eval_put a 49 v j hs
  exact {
    df := by simpa [Act.put] using h.df
    sz := by rw [size_put]; exact h.sz
    kp := fun j h1 h2 => (get_put a 49 v j (by omega)).trans (h.kp j h1 h2)
    bel := h.bel
    q11 := by simpa [hd, he] using h.q11
    q13 := by rw [he]; exact h.q13
    o6 := fun h1 => by have h2 := h.o6 (by simpa [hd] using h1); simp [hd, h2]
    o10 := fun h1 => by have h2 := h.o10 (by simpa [hd] using h1); simp [hd, h2]
    o15 := fun h1 => by have h2 := h.o15 (by simpa [hd] using h1); simp [hd, h2]
    o16 := fun h1 => by have h2 := h.o16 (by simpa [hd] using h1); simp [hd, h2]
    p0 := by simpa [hd, he] using h.p0
    p1 := fun _ => by rw [he]; simpa using hv
    p2 := by simpa [hd, he] using h.p2
    p3 := by simpa [hd, he] using h.p3
    p4 := by simpa [hd, he] using h.p4
    p5 := by simpa [hd, he] using h.p5
    p6 := by simpa [hd, he] using h.p6
    p7 := by simpa [hd, he] using h.p7
    p8 := by simpa [hd, he] using h.p8
    p9 := by simpa [hd, he] using h.p9
    p10 := by simpa [hd, he] using h.p10
    p11 := by simpa [hd, he] using h.p11
    p12 := by simpa [hd, he] using h.p12
    p13 := by simpa [hd, he] using h.p13
    p14 := by simpa [hd, he] using h.p14
    p15 := by simpa [hd, he] using h.p15
    p16 := by simpa [hd, he] using h.p16
  }

set_option maxHeartbeats 1000000 in
theorem Rot_2 {base : Array Value} {W0 : World} {lv lo hi : Value} {k m : Nat} {p : Addr} {xn : ByteArray} {xt : Bool} {xi : Int} {xs : ByteArray} {ys zs : List Value} {L : Array Bool} {a : Act} {w w' : World} {v : Value} (h : Rot base W0 lv lo hi k m p xn xt xi xs ys zs L a w) (hL : L.size = 17) (hb : base.size = 142) (hnd : ¬ done L 2) (hv : v = .int .i64 (k : Nat)) :
    Rot base W0 lv lo hi k m p xn xt xi xs ys zs (L.setIfInBounds 2 true) (a.put (some 50) v) w := by
  have _ := hnd
  have _ := w'
  have hd := fun j => done_set (L := L) (i := 2) (by omega) j
  have hs : 50 < a.tmps.size := by rw [h.sz]; omega
  have he := fun j => eval_put a 50 v j hs
  exact {
    df := by simpa [Act.put] using h.df
    sz := by rw [size_put]; exact h.sz
    kp := fun j h1 h2 => (get_put a 50 v j (by omega)).trans (h.kp j h1 h2)
    bel := h.bel
    q11 := by simpa [hd, he] using h.q11
    q13 := by rw [he]; exact h.q13
    o6 := fun h1 => by have h2 := h.o6 (by simpa [hd] using h1); simp [hd, h2]
    o10 := fun h1 => by have h2 := h.o10 (by simpa [hd] using h1); simp [hd, h2]
    o15 := fun h1 => by have h2 := h.o15 (by simpa [hd] using h1); simp [hd, h2]
    o16 := fun h1 => by have h2 := h.o16 (by simpa [hd] using h1); simp [hd, h2]
    p0 := by simpa [hd, he] using h.p0
    p1 := by simpa [hd, he] using h.p1
    p2 := fun _ => by rw [he]; simpa using hv
    p3 := by simpa [hd, he] using h.p3
    p4 := by simpa [hd, he] using h.p4
    p5 := by simpa [hd, he] using h.p5
    p6 := by simpa [hd, he] using h.p6
    p7 := by simpa [hd, he] using h.p7
    p8 := by simpa [hd, he] using h.p8
    p9 := by simpa [hd, he] using h.p9
    p10 := by simpa [hd, he] using h.p10
    p11 := by simpa [hd, he] using h.p11
    p12 := by simpa [hd, he] using h.p12
    p13 := by simpa [hd, he] using h.p13
    p14 := by simpa [hd, he] using h.p14
    p15 := by simpa [hd, he] using h.p15
    p16 := by simpa [hd, he] using h.p16
  }

set_option maxHeartbeats 1000000 in
theorem Rot_3 {base : Array Value} {W0 : World} {lv lo hi : Value} {k m : Nat} {p : Addr} {xn : ByteArray} {xt : Bool} {xi : Int} {xs : ByteArray} {ys zs : List Value} {L : Array Bool} {a : Act} {w w' : World} {v : Value} (h : Rot base W0 lv lo hi k m p xn xt xi xs ys zs L a w) (hL : L.size = 17) (hb : base.size = 142) (hnd : ¬ done L 3) (hv : v = .pointer (some p)) :
    Rot base W0 lv lo hi k m p xn xt xi xs ys zs (L.setIfInBounds 3 true) (a.put (some 51) v) w := by
  have _ := hnd
  have _ := w'
  have hd := fun j => done_set (L := L) (i := 3) (by omega) j
  have hs : 51 < a.tmps.size := by rw [h.sz]; omega
  have he := fun j => eval_put a 51 v j hs
  exact {
    df := by simpa [Act.put] using h.df
    sz := by rw [size_put]; exact h.sz
    kp := fun j h1 h2 => (get_put a 51 v j (by omega)).trans (h.kp j h1 h2)
    bel := h.bel
    q11 := by simpa [hd, he] using h.q11
    q13 := by rw [he]; exact h.q13
    o6 := fun h1 => by have h2 := h.o6 (by simpa [hd] using h1); simp [hd, h2]
    o10 := fun h1 => by have h2 := h.o10 (by simpa [hd] using h1); simp [hd, h2]
    o15 := fun h1 => by have h2 := h.o15 (by simpa [hd] using h1); simp [hd, h2]
    o16 := fun h1 => by have h2 := h.o16 (by simpa [hd] using h1); simp [hd, h2]
    p0 := by simpa [hd, he] using h.p0
    p1 := by simpa [hd, he] using h.p1
    p2 := by simpa [hd, he] using h.p2
    p3 := fun _ => by rw [he]; simpa using hv
    p4 := by simpa [hd, he] using h.p4
    p5 := by simpa [hd, he] using h.p5
    p6 := by simpa [hd, he] using h.p6
    p7 := by simpa [hd, he] using h.p7
    p8 := by simpa [hd, he] using h.p8
    p9 := by simpa [hd, he] using h.p9
    p10 := by simpa [hd, he] using h.p10
    p11 := by simpa [hd, he] using h.p11
    p12 := by simpa [hd, he] using h.p12
    p13 := by simpa [hd, he] using h.p13
    p14 := by simpa [hd, he] using h.p14
    p15 := by simpa [hd, he] using h.p15
    p16 := by simpa [hd, he] using h.p16
  }

set_option maxHeartbeats 1000000 in
theorem Rot_4 {base : Array Value} {W0 : World} {lv lo hi : Value} {k m : Nat} {p : Addr} {xn : ByteArray} {xt : Bool} {xi : Int} {xs : ByteArray} {ys zs : List Value} {L : Array Bool} {a : Act} {w w' : World} {v : Value} (h : Rot base W0 lv lo hi k m p xn xt xi xs ys zs L a w) (hL : L.size = 17) (hb : base.size = 142) (hnd : ¬ done L 4) (hv : v = av (xn, xt, xi, xs)) :
    Rot base W0 lv lo hi k m p xn xt xi xs ys zs (L.setIfInBounds 4 true) (a.put (some 52) v) w := by
  have _ := hnd
  have _ := w'
  have hd := fun j => done_set (L := L) (i := 4) (by omega) j
  have hs : 52 < a.tmps.size := by rw [h.sz]; omega
  have he := fun j => eval_put a 52 v j hs
  exact {
    df := by simpa [Act.put] using h.df
    sz := by rw [size_put]; exact h.sz
    kp := fun j h1 h2 => (get_put a 52 v j (by omega)).trans (h.kp j h1 h2)
    bel := h.bel
    q11 := by simpa [hd, he] using h.q11
    q13 := by rw [he]; exact h.q13
    o6 := fun h1 => by have h2 := h.o6 (by simpa [hd] using h1); simp [hd, h2]
    o10 := fun h1 => by have h2 := h.o10 (by simpa [hd] using h1); simp [hd, h2]
    o15 := fun h1 => by have h2 := h.o15 (by simpa [hd] using h1); simp [hd, h2]
    o16 := fun h1 => by have h2 := h.o16 (by simpa [hd] using h1); simp [hd, h2]
    p0 := by simpa [hd, he] using h.p0
    p1 := by simpa [hd, he] using h.p1
    p2 := by simpa [hd, he] using h.p2
    p3 := by simpa [hd, he] using h.p3
    p4 := fun _ => by rw [he]; simpa using hv
    p5 := by simpa [hd, he] using h.p5
    p6 := by simpa [hd, he] using h.p6
    p7 := by simpa [hd, he] using h.p7
    p8 := by simpa [hd, he] using h.p8
    p9 := by simpa [hd, he] using h.p9
    p10 := by simpa [hd, he] using h.p10
    p11 := by simpa [hd, he] using h.p11
    p12 := by simpa [hd, he] using h.p12
    p13 := by simpa [hd, he] using h.p13
    p14 := by simpa [hd, he] using h.p14
    p15 := by simpa [hd, he] using h.p15
    p16 := by simpa [hd, he] using h.p16
  }

set_option maxHeartbeats 1000000 in
theorem Rot_5 {base : Array Value} {W0 : World} {lv lo hi : Value} {k m : Nat} {p : Addr} {xn : ByteArray} {xt : Bool} {xi : Int} {xs : ByteArray} {ys zs : List Value} {L : Array Bool} {a : Act} {w w' : World} {v : Value} (h : Rot base W0 lv lo hi k m p xn xt xi xs ys zs L a w) (hL : L.size = 17) (hb : base.size = 142) (hnd : ¬ done L 5) (hv : v = .slice (some ⟨w.heap.size, 0, none⟩) 1 1) :
    Rot base W0 lv lo hi k m p xn xt xi xs ys zs (L.setIfInBounds 5 true) (a.put (some 53) v) (w.alloc (.cells #[.string xn, .bool xt, .int .i64 xi, .string xs] 25)) := by
  have _ := hnd
  have _ := w'
  have hd := fun j => done_set (L := L) (i := 5) (by omega) j
  have hs : 53 < a.tmps.size := by rw [h.sz]; omega
  have he := fun j => eval_put a 53 v j hs
  have n5 := hnd
  have n6 : ¬ done L 6 := fun x => n5 (h.o6 x).2
  have n10 : ¬ done L 10 := fun x => n6 (h.o10 x).1
  have n15 : ¬ done L 15 := fun x => n10 (h.o15 x).1
  have n16 : ¬ done L 16 := fun x => n15 (h.o16 x).1
  exact {
    df := by simpa [Act.put] using h.df
    sz := by rw [size_put]; exact h.sz
    kp := fun j h1 h2 => (get_put a 53 v j (by omega)).trans (h.kp j h1 h2)
    bel := h.bel.alloc h.bel.size _
    q11 := by simpa [hd, he] using h.q11
    q13 := by rw [he]; exact h.q13
    o6 := fun h1 => by have h2 := h.o6 (by simpa [hd] using h1); simp [hd, h2]
    o10 := fun h1 => by have h2 := h.o10 (by simpa [hd] using h1); simp [hd, h2]
    o15 := fun h1 => by have h2 := h.o15 (by simpa [hd] using h1); simp [hd, h2]
    o16 := fun h1 => by have h2 := h.o16 (by simpa [hd] using h1); simp [hd, h2]
    p0 := fun h1 h2 => by rw [he]; simpa using (h.p0 (by simpa [hd] using h1) (by simpa [hd] using h2)).alloc _
    p1 := by simpa [hd, he] using h.p1
    p2 := by simpa [hd, he] using h.p2
    p3 := by simpa [hd, he] using h.p3
    p4 := by simpa [hd, he] using h.p4
    p5 := fun _ _ => by
      refine ⟨w.heap.size, h.bel.size, by rw [he, if_pos rfl, hv], heapLast w _⟩

    p6 := fun h1 _ => absurd (by simpa [hd] using h1) n6
    p7 := by simpa [hd, he] using h.p7
    p8 := by simpa [hd, he] using h.p8
    p9 := by simpa [hd, he] using h.p9
    p10 := fun h1 _ => absurd (by simpa [hd] using h1) n10
    p11 := by simpa [hd, he] using h.p11
    p12 := by simpa [hd, he] using h.p12
    p13 := by simpa [hd, he] using h.p13
    p14 := by simpa [hd, he] using h.p14
    p15 := fun h1 _ => absurd (by simpa [hd] using h1) n15
    p16 := fun h1 => absurd (by simpa [hd] using h1) n16
  }

set_option maxHeartbeats 1000000 in
theorem Rot_6 {base : Array Value} {W0 : World} {lv lo hi : Value} {k m : Nat} {p : Addr} {xn : ByteArray} {xt : Bool} {xi : Int} {xs : ByteArray} {ys zs : List Value} {L : Array Bool} {a : Act} {w w' : World} {v : Value} (h : Rot base W0 lv lo hi k m p xn xt xi xs ys zs L a w) (hL : L.size = 17) (hb : base.size = 142) (hnd : ¬ done L 6) (d0 : done L 0) (d5 : done L 5) (hv : w'.ownsRow W0.heap.size 25 4 v (1) ([.string xn, .bool xt, .int .i64 xi, .string xs])) (hg : w.grownBy w' (a.eval (.tmp 48)).ownBlock) :
    Rot base W0 lv lo hi k m p xn xt xi xs ys zs (L.setIfInBounds 6 true) (a.put (some 54) v) w' := by
  have _ := hnd
  have _ := w'
  have hd := fun j => done_set (L := L) (i := 6) (by omega) j
  have hs : 54 < a.tmps.size := by rw [h.sz]; omega
  have he := fun j => eval_put a 54 v j hs
  have n6 := hnd
  have n10 : ¬ done L 10 := fun x => n6 (h.o10 x).1
  have n15 : ¬ done L 15 := fun x => n10 (h.o15 x).1
  have n16 : ¬ done L 16 := fun x => n15 (h.o16 x).1
  exact {
    df := by simpa [Act.put] using h.df
    sz := by rw [size_put]; exact h.sz
    kp := fun j h1 h2 => (get_put a 54 v j (by omega)).trans (h.kp j h1 h2)
    bel := h.bel.grown hg h.bel.size (fun j hj => ((h.p0 d0 hnd).lt j hj).1)
    q11 := by simpa [hd, he] using h.q11
    q13 := by rw [he]; exact h.q13
    o6 := fun _ => by simp [hd, d0, d5]
    o10 := fun h1 => by have h2 := h.o10 (by simpa [hd] using h1); simp [hd, h2]
    o15 := fun h1 => by have h2 := h.o15 (by simpa [hd] using h1); simp [hd, h2]
    o16 := fun h1 => by have h2 := h.o16 (by simpa [hd] using h1); simp [hd, h2]
    p0 := fun _ h2 => absurd (by simp [hd]) h2
    p1 := by simpa [hd, he] using h.p1
    p2 := by simpa [hd, he] using h.p2
    p3 := by simpa [hd, he] using h.p3
    p4 := by simpa [hd, he] using h.p4
    p5 := fun _ h2 => absurd (by simp [hd]) h2
    p6 := fun _ _ => by rw [he, if_pos rfl]; exact hv
    p7 := by simpa [hd, he] using h.p7
    p8 := by simpa [hd, he] using h.p8
    p9 := by simpa [hd, he] using h.p9
    p10 := fun h1 _ => absurd (by simpa [hd] using h1) n10
    p11 := by simpa [hd, he] using h.p11
    p12 := by simpa [hd, he] using h.p12
    p13 := by simpa [hd, he] using h.p13
    p14 := by simpa [hd, he] using h.p14
    p15 := fun h1 _ => absurd (by simpa [hd] using h1) n15
    p16 := fun h1 => absurd (by simpa [hd] using h1) n16
  }

set_option maxHeartbeats 1000000 in
theorem Rot_7 {base : Array Value} {W0 : World} {lv lo hi : Value} {k m : Nat} {p : Addr} {xn : ByteArray} {xt : Bool} {xi : Int} {xs : ByteArray} {ys zs : List Value} {L : Array Bool} {a : Act} {w w' : World} {v : Value} (h : Rot base W0 lv lo hi k m p xn xt xi xs ys zs L a w) (hL : L.size = 17) (hb : base.size = 142) (hnd : ¬ done L 7) (hv : v = lv) :
    Rot base W0 lv lo hi k m p xn xt xi xs ys zs (L.setIfInBounds 7 true) (a.put (some 55) v) w := by
  have _ := hnd
  have _ := w'
  have hd := fun j => done_set (L := L) (i := 7) (by omega) j
  have hs : 55 < a.tmps.size := by rw [h.sz]; omega
  have he := fun j => eval_put a 55 v j hs
  exact {
    df := by simpa [Act.put] using h.df
    sz := by rw [size_put]; exact h.sz
    kp := fun j h1 h2 => (get_put a 55 v j (by omega)).trans (h.kp j h1 h2)
    bel := h.bel
    q11 := by simpa [hd, he] using h.q11
    q13 := by rw [he]; exact h.q13
    o6 := fun h1 => by have h2 := h.o6 (by simpa [hd] using h1); simp [hd, h2]
    o10 := fun h1 => by have h2 := h.o10 (by simpa [hd] using h1); simp [hd, h2]
    o15 := fun h1 => by have h2 := h.o15 (by simpa [hd] using h1); simp [hd, h2]
    o16 := fun h1 => by have h2 := h.o16 (by simpa [hd] using h1); simp [hd, h2]
    p0 := by simpa [hd, he] using h.p0
    p1 := by simpa [hd, he] using h.p1
    p2 := by simpa [hd, he] using h.p2
    p3 := by simpa [hd, he] using h.p3
    p4 := by simpa [hd, he] using h.p4
    p5 := by simpa [hd, he] using h.p5
    p6 := by simpa [hd, he] using h.p6
    p7 := fun _ => by rw [he]; simpa using hv
    p8 := by simpa [hd, he] using h.p8
    p9 := by simpa [hd, he] using h.p9
    p10 := by simpa [hd, he] using h.p10
    p11 := by simpa [hd, he] using h.p11
    p12 := by simpa [hd, he] using h.p12
    p13 := by simpa [hd, he] using h.p13
    p14 := by simpa [hd, he] using h.p14
    p15 := by simpa [hd, he] using h.p15
    p16 := by simpa [hd, he] using h.p16
  }

set_option maxHeartbeats 1000000 in
theorem Rot_8 {base : Array Value} {W0 : World} {lv lo hi : Value} {k m : Nat} {p : Addr} {xn : ByteArray} {xt : Bool} {xi : Int} {xs : ByteArray} {ys zs : List Value} {L : Array Bool} {a : Act} {w w' : World} {v : Value} (h : Rot base W0 lv lo hi k m p xn xt xi xs ys zs L a w) (hL : L.size = 17) (hb : base.size = 142) (hnd : ¬ done L 8) (hv : v = .int .i64 (k : Nat)) :
    Rot base W0 lv lo hi k m p xn xt xi xs ys zs (L.setIfInBounds 8 true) (a.put (some 56) v) w := by
  have _ := hnd
  have _ := w'
  have hd := fun j => done_set (L := L) (i := 8) (by omega) j
  have hs : 56 < a.tmps.size := by rw [h.sz]; omega
  have he := fun j => eval_put a 56 v j hs
  exact {
    df := by simpa [Act.put] using h.df
    sz := by rw [size_put]; exact h.sz
    kp := fun j h1 h2 => (get_put a 56 v j (by omega)).trans (h.kp j h1 h2)
    bel := h.bel
    q11 := by simpa [hd, he] using h.q11
    q13 := by rw [he]; exact h.q13
    o6 := fun h1 => by have h2 := h.o6 (by simpa [hd] using h1); simp [hd, h2]
    o10 := fun h1 => by have h2 := h.o10 (by simpa [hd] using h1); simp [hd, h2]
    o15 := fun h1 => by have h2 := h.o15 (by simpa [hd] using h1); simp [hd, h2]
    o16 := fun h1 => by have h2 := h.o16 (by simpa [hd] using h1); simp [hd, h2]
    p0 := by simpa [hd, he] using h.p0
    p1 := by simpa [hd, he] using h.p1
    p2 := by simpa [hd, he] using h.p2
    p3 := by simpa [hd, he] using h.p3
    p4 := by simpa [hd, he] using h.p4
    p5 := by simpa [hd, he] using h.p5
    p6 := by simpa [hd, he] using h.p6
    p7 := by simpa [hd, he] using h.p7
    p8 := fun _ => by rw [he]; simpa using hv
    p9 := by simpa [hd, he] using h.p9
    p10 := by simpa [hd, he] using h.p10
    p11 := by simpa [hd, he] using h.p11
    p12 := by simpa [hd, he] using h.p12
    p13 := by simpa [hd, he] using h.p13
    p14 := by simpa [hd, he] using h.p14
    p15 := by simpa [hd, he] using h.p15
    p16 := by simpa [hd, he] using h.p16
  }

set_option maxHeartbeats 1000000 in
theorem Rot_9 {base : Array Value} {W0 : World} {lv lo hi : Value} {k m : Nat} {p : Addr} {xn : ByteArray} {xt : Bool} {xi : Int} {xs : ByteArray} {ys zs : List Value} {L : Array Bool} {a : Act} {w w' : World} {v : Value} (h : Rot base W0 lv lo hi k m p xn xt xi xs ys zs L a w) (hL : L.size = 17) (hb : base.size = 142) (hnd : ¬ done L 9) (hv : v = lo) :
    Rot base W0 lv lo hi k m p xn xt xi xs ys zs (L.setIfInBounds 9 true) (a.put (some 57) v) w := by
  have _ := hnd
  have _ := w'
  have hd := fun j => done_set (L := L) (i := 9) (by omega) j
  have hs : 57 < a.tmps.size := by rw [h.sz]; omega
  have he := fun j => eval_put a 57 v j hs
  exact {
    df := by simpa [Act.put] using h.df
    sz := by rw [size_put]; exact h.sz
    kp := fun j h1 h2 => (get_put a 57 v j (by omega)).trans (h.kp j h1 h2)
    bel := h.bel
    q11 := by simpa [hd, he] using h.q11
    q13 := by rw [he]; exact h.q13
    o6 := fun h1 => by have h2 := h.o6 (by simpa [hd] using h1); simp [hd, h2]
    o10 := fun h1 => by have h2 := h.o10 (by simpa [hd] using h1); simp [hd, h2]
    o15 := fun h1 => by have h2 := h.o15 (by simpa [hd] using h1); simp [hd, h2]
    o16 := fun h1 => by have h2 := h.o16 (by simpa [hd] using h1); simp [hd, h2]
    p0 := by simpa [hd, he] using h.p0
    p1 := by simpa [hd, he] using h.p1
    p2 := by simpa [hd, he] using h.p2
    p3 := by simpa [hd, he] using h.p3
    p4 := by simpa [hd, he] using h.p4
    p5 := by simpa [hd, he] using h.p5
    p6 := by simpa [hd, he] using h.p6
    p7 := by simpa [hd, he] using h.p7
    p8 := by simpa [hd, he] using h.p8
    p9 := fun _ => by rw [he]; simpa using hv
    p10 := by simpa [hd, he] using h.p10
    p11 := by simpa [hd, he] using h.p11
    p12 := by simpa [hd, he] using h.p12
    p13 := by simpa [hd, he] using h.p13
    p14 := by simpa [hd, he] using h.p14
    p15 := by simpa [hd, he] using h.p15
    p16 := by simpa [hd, he] using h.p16
  }

set_option maxHeartbeats 1000000 in
theorem Rot_10 {base : Array Value} {W0 : World} {lv lo hi : Value} {k m : Nat} {p : Addr} {xn : ByteArray} {xt : Bool} {xi : Int} {xs : ByteArray} {ys zs : List Value} {L : Array Bool} {a : Act} {w w' : World} {v : Value} (h : Rot base W0 lv lo hi k m p xn xt xi xs ys zs L a w) (hL : L.size = 17) (hb : base.size = 142) (hnd : ¬ done L 10) (d6 : done L 6) (d9 : done L 9) (hv : w'.ownsRow W0.heap.size 25 4 v (1 + k) ([.string xn, .bool xt, .int .i64 xi, .string xs] ++ ys)) (hg : w.grownBy w' (a.eval (.tmp 54)).ownBlock) :
    Rot base W0 lv lo hi k m p xn xt xi xs ys zs (L.setIfInBounds 10 true) (a.put (some 58) v) w' := by
  have _ := hnd
  have _ := w'
  have hd := fun j => done_set (L := L) (i := 10) (by omega) j
  have hs : 58 < a.tmps.size := by rw [h.sz]; omega
  have he := fun j => eval_put a 58 v j hs
  have n10 := hnd
  have n15 : ¬ done L 15 := fun x => n10 (h.o15 x).1
  have n16 : ¬ done L 16 := fun x => n15 (h.o16 x).1
  exact {
    df := by simpa [Act.put] using h.df
    sz := by rw [size_put]; exact h.sz
    kp := fun j h1 h2 => (get_put a 58 v j (by omega)).trans (h.kp j h1 h2)
    bel := h.bel.grown hg h.bel.size (fun j hj => ((h.p6 d6 hnd).lt j hj).1)
    q11 := by simpa [hd, he] using h.q11
    q13 := by rw [he]; exact h.q13
    o6 := fun h1 => by have h2 := h.o6 (by simpa [hd] using h1); simp [hd, h2]
    o10 := fun _ => by simp [hd, d6, d9]
    o15 := fun h1 => by have h2 := h.o15 (by simpa [hd] using h1); simp [hd, h2]
    o16 := fun h1 => by have h2 := h.o16 (by simpa [hd] using h1); simp [hd, h2]
    p0 := fun _ h2 => absurd (by simp [hd, d6]) h2
    p1 := by simpa [hd, he] using h.p1
    p2 := by simpa [hd, he] using h.p2
    p3 := by simpa [hd, he] using h.p3
    p4 := by simpa [hd, he] using h.p4
    p5 := fun _ h2 => absurd (by simp [hd, d6]) h2
    p6 := fun _ h2 => absurd (by simp [hd]) h2
    p7 := by simpa [hd, he] using h.p7
    p8 := by simpa [hd, he] using h.p8
    p9 := by simpa [hd, he] using h.p9
    p10 := fun _ _ => by rw [he, if_pos rfl]; exact hv
    p11 := by simpa [hd, he] using h.p11
    p12 := by simpa [hd, he] using h.p12
    p13 := by simpa [hd, he] using h.p13
    p14 := by simpa [hd, he] using h.p14
    p15 := fun h1 _ => absurd (by simpa [hd] using h1) n15
    p16 := fun h1 => absurd (by simpa [hd] using h1) n16
  }

set_option maxHeartbeats 1000000 in
theorem Rot_11 {base : Array Value} {W0 : World} {lv lo hi : Value} {k m : Nat} {p : Addr} {xn : ByteArray} {xt : Bool} {xi : Int} {xs : ByteArray} {ys zs : List Value} {L : Array Bool} {a : Act} {w w' : World} {v : Value} (h : Rot base W0 lv lo hi k m p xn xt xi xs ys zs L a w) (hL : L.size = 17) (hb : base.size = 142) (hnd : ¬ done L 11) (hv : v = lv) :
    Rot base W0 lv lo hi k m p xn xt xi xs ys zs (L.setIfInBounds 11 true) (a.put (some 59) v) w := by
  have _ := hnd
  have _ := w'
  have hd := fun j => done_set (L := L) (i := 11) (by omega) j
  have hs : 59 < a.tmps.size := by rw [h.sz]; omega
  have he := fun j => eval_put a 59 v j hs
  exact {
    df := by simpa [Act.put] using h.df
    sz := by rw [size_put]; exact h.sz
    kp := fun j h1 h2 => (get_put a 59 v j (by omega)).trans (h.kp j h1 h2)
    bel := h.bel
    q11 := by simpa [hd, he] using h.q11
    q13 := by rw [he]; exact h.q13
    o6 := fun h1 => by have h2 := h.o6 (by simpa [hd] using h1); simp [hd, h2]
    o10 := fun h1 => by have h2 := h.o10 (by simpa [hd] using h1); simp [hd, h2]
    o15 := fun h1 => by have h2 := h.o15 (by simpa [hd] using h1); simp [hd, h2]
    o16 := fun h1 => by have h2 := h.o16 (by simpa [hd] using h1); simp [hd, h2]
    p0 := by simpa [hd, he] using h.p0
    p1 := by simpa [hd, he] using h.p1
    p2 := by simpa [hd, he] using h.p2
    p3 := by simpa [hd, he] using h.p3
    p4 := by simpa [hd, he] using h.p4
    p5 := by simpa [hd, he] using h.p5
    p6 := by simpa [hd, he] using h.p6
    p7 := by simpa [hd, he] using h.p7
    p8 := by simpa [hd, he] using h.p8
    p9 := by simpa [hd, he] using h.p9
    p10 := by simpa [hd, he] using h.p10
    p11 := fun _ => by rw [he]; simpa using hv
    p12 := by simpa [hd, he] using h.p12
    p13 := by simpa [hd, he] using h.p13
    p14 := by simpa [hd, he] using h.p14
    p15 := by simpa [hd, he] using h.p15
    p16 := by simpa [hd, he] using h.p16
  }

set_option maxHeartbeats 1000000 in
theorem Rot_12 {base : Array Value} {W0 : World} {lv lo hi : Value} {k m : Nat} {p : Addr} {xn : ByteArray} {xt : Bool} {xi : Int} {xs : ByteArray} {ys zs : List Value} {L : Array Bool} {a : Act} {w w' : World} {v : Value} (h : Rot base W0 lv lo hi k m p xn xt xi xs ys zs L a w) (hL : L.size = 17) (hb : base.size = 142) (hnd : ¬ done L 12) (hv : v = .int .i64 (k : Nat)) :
    Rot base W0 lv lo hi k m p xn xt xi xs ys zs (L.setIfInBounds 12 true) (a.put (some 60) v) w := by
  have _ := hnd
  have _ := w'
  have hd := fun j => done_set (L := L) (i := 12) (by omega) j
  have hs : 60 < a.tmps.size := by rw [h.sz]; omega
  have he := fun j => eval_put a 60 v j hs
  exact {
    df := by simpa [Act.put] using h.df
    sz := by rw [size_put]; exact h.sz
    kp := fun j h1 h2 => (get_put a 60 v j (by omega)).trans (h.kp j h1 h2)
    bel := h.bel
    q11 := by simpa [hd, he] using h.q11
    q13 := by rw [he]; exact h.q13
    o6 := fun h1 => by have h2 := h.o6 (by simpa [hd] using h1); simp [hd, h2]
    o10 := fun h1 => by have h2 := h.o10 (by simpa [hd] using h1); simp [hd, h2]
    o15 := fun h1 => by have h2 := h.o15 (by simpa [hd] using h1); simp [hd, h2]
    o16 := fun h1 => by have h2 := h.o16 (by simpa [hd] using h1); simp [hd, h2]
    p0 := by simpa [hd, he] using h.p0
    p1 := by simpa [hd, he] using h.p1
    p2 := by simpa [hd, he] using h.p2
    p3 := by simpa [hd, he] using h.p3
    p4 := by simpa [hd, he] using h.p4
    p5 := by simpa [hd, he] using h.p5
    p6 := by simpa [hd, he] using h.p6
    p7 := by simpa [hd, he] using h.p7
    p8 := by simpa [hd, he] using h.p8
    p9 := by simpa [hd, he] using h.p9
    p10 := by simpa [hd, he] using h.p10
    p11 := by simpa [hd, he] using h.p11
    p12 := fun _ => by rw [he]; simpa using hv
    p13 := by simpa [hd, he] using h.p13
    p14 := by simpa [hd, he] using h.p14
    p15 := by simpa [hd, he] using h.p15
    p16 := by simpa [hd, he] using h.p16
  }

set_option maxHeartbeats 1000000 in
theorem Rot_13 {base : Array Value} {W0 : World} {lv lo hi : Value} {k m : Nat} {p : Addr} {xn : ByteArray} {xt : Bool} {xi : Int} {xs : ByteArray} {ys zs : List Value} {L : Array Bool} {a : Act} {w w' : World} {v : Value} (h : Rot base W0 lv lo hi k m p xn xt xi xs ys zs L a w) (hL : L.size = 17) (hb : base.size = 142) (hnd : ¬ done L 13) (hv : v = .int .i64 ((k : Nat) + 1)) :
    Rot base W0 lv lo hi k m p xn xt xi xs ys zs (L.setIfInBounds 13 true) (a.put (some 61) v) w := by
  have _ := hnd
  have _ := w'
  have hd := fun j => done_set (L := L) (i := 13) (by omega) j
  have hs : 61 < a.tmps.size := by rw [h.sz]; omega
  have he := fun j => eval_put a 61 v j hs
  exact {
    df := by simpa [Act.put] using h.df
    sz := by rw [size_put]; exact h.sz
    kp := fun j h1 h2 => (get_put a 61 v j (by omega)).trans (h.kp j h1 h2)
    bel := h.bel
    q11 := by simpa [hd, he] using h.q11
    q13 := by rw [he]; exact h.q13
    o6 := fun h1 => by have h2 := h.o6 (by simpa [hd] using h1); simp [hd, h2]
    o10 := fun h1 => by have h2 := h.o10 (by simpa [hd] using h1); simp [hd, h2]
    o15 := fun h1 => by have h2 := h.o15 (by simpa [hd] using h1); simp [hd, h2]
    o16 := fun h1 => by have h2 := h.o16 (by simpa [hd] using h1); simp [hd, h2]
    p0 := by simpa [hd, he] using h.p0
    p1 := by simpa [hd, he] using h.p1
    p2 := by simpa [hd, he] using h.p2
    p3 := by simpa [hd, he] using h.p3
    p4 := by simpa [hd, he] using h.p4
    p5 := by simpa [hd, he] using h.p5
    p6 := by simpa [hd, he] using h.p6
    p7 := by simpa [hd, he] using h.p7
    p8 := by simpa [hd, he] using h.p8
    p9 := by simpa [hd, he] using h.p9
    p10 := by simpa [hd, he] using h.p10
    p11 := by simpa [hd, he] using h.p11
    p12 := by simpa [hd, he] using h.p12
    p13 := fun _ => by rw [he]; simpa using hv
    p14 := by simpa [hd, he] using h.p14
    p15 := by simpa [hd, he] using h.p15
    p16 := by simpa [hd, he] using h.p16
  }

set_option maxHeartbeats 1000000 in
theorem Rot_14 {base : Array Value} {W0 : World} {lv lo hi : Value} {k m : Nat} {p : Addr} {xn : ByteArray} {xt : Bool} {xi : Int} {xs : ByteArray} {ys zs : List Value} {L : Array Bool} {a : Act} {w w' : World} {v : Value} (h : Rot base W0 lv lo hi k m p xn xt xi xs ys zs L a w) (hL : L.size = 17) (hb : base.size = 142) (hnd : ¬ done L 14) (hv : v = hi) :
    Rot base W0 lv lo hi k m p xn xt xi xs ys zs (L.setIfInBounds 14 true) (a.put (some 62) v) w := by
  have _ := hnd
  have _ := w'
  have hd := fun j => done_set (L := L) (i := 14) (by omega) j
  have hs : 62 < a.tmps.size := by rw [h.sz]; omega
  have he := fun j => eval_put a 62 v j hs
  exact {
    df := by simpa [Act.put] using h.df
    sz := by rw [size_put]; exact h.sz
    kp := fun j h1 h2 => (get_put a 62 v j (by omega)).trans (h.kp j h1 h2)
    bel := h.bel
    q11 := by simpa [hd, he] using h.q11
    q13 := by rw [he]; exact h.q13
    o6 := fun h1 => by have h2 := h.o6 (by simpa [hd] using h1); simp [hd, h2]
    o10 := fun h1 => by have h2 := h.o10 (by simpa [hd] using h1); simp [hd, h2]
    o15 := fun h1 => by have h2 := h.o15 (by simpa [hd] using h1); simp [hd, h2]
    o16 := fun h1 => by have h2 := h.o16 (by simpa [hd] using h1); simp [hd, h2]
    p0 := by simpa [hd, he] using h.p0
    p1 := by simpa [hd, he] using h.p1
    p2 := by simpa [hd, he] using h.p2
    p3 := by simpa [hd, he] using h.p3
    p4 := by simpa [hd, he] using h.p4
    p5 := by simpa [hd, he] using h.p5
    p6 := by simpa [hd, he] using h.p6
    p7 := by simpa [hd, he] using h.p7
    p8 := by simpa [hd, he] using h.p8
    p9 := by simpa [hd, he] using h.p9
    p10 := by simpa [hd, he] using h.p10
    p11 := by simpa [hd, he] using h.p11
    p12 := by simpa [hd, he] using h.p12
    p13 := by simpa [hd, he] using h.p13
    p14 := fun _ => by rw [he]; simpa using hv
    p15 := by simpa [hd, he] using h.p15
    p16 := by simpa [hd, he] using h.p16
  }

set_option maxHeartbeats 1000000 in
theorem Rot_15 {base : Array Value} {W0 : World} {lv lo hi : Value} {k m : Nat} {p : Addr} {xn : ByteArray} {xt : Bool} {xi : Int} {xs : ByteArray} {ys zs : List Value} {L : Array Bool} {a : Act} {w w' : World} {v : Value} (h : Rot base W0 lv lo hi k m p xn xt xi xs ys zs L a w) (hL : L.size = 17) (hb : base.size = 142) (hnd : ¬ done L 15) (d10 : done L 10) (d14 : done L 14) (hv : w'.ownsRow W0.heap.size 25 4 v (1 + k + m) ([.string xn, .bool xt, .int .i64 xi, .string xs] ++ ys ++ zs)) (hg : w.grownBy w' (a.eval (.tmp 58)).ownBlock) :
    Rot base W0 lv lo hi k m p xn xt xi xs ys zs (L.setIfInBounds 15 true) (a.put (some 63) v) w' := by
  have _ := hnd
  have _ := w'
  have hd := fun j => done_set (L := L) (i := 15) (by omega) j
  have hs : 63 < a.tmps.size := by rw [h.sz]; omega
  have he := fun j => eval_put a 63 v j hs
  have n15 := hnd
  have n16 : ¬ done L 16 := fun x => n15 (h.o16 x).1
  exact {
    df := by simpa [Act.put] using h.df
    sz := by rw [size_put]; exact h.sz
    kp := fun j h1 h2 => (get_put a 63 v j (by omega)).trans (h.kp j h1 h2)
    bel := h.bel.grown hg h.bel.size (fun j hj => ((h.p10 d10 hnd).lt j hj).1)
    q11 := by simpa [hd, he] using h.q11
    q13 := by rw [he]; exact h.q13
    o6 := fun h1 => by have h2 := h.o6 (by simpa [hd] using h1); simp [hd, h2]
    o10 := fun h1 => by have h2 := h.o10 (by simpa [hd] using h1); simp [hd, h2]
    o15 := fun _ => by simp [hd, d10, d14]
    o16 := fun h1 => by have h2 := h.o16 (by simpa [hd] using h1); simp [hd, h2]
    p0 := fun _ h2 => absurd (by simp [hd, (h.o10 d10).1]) h2
    p1 := by simpa [hd, he] using h.p1
    p2 := by simpa [hd, he] using h.p2
    p3 := by simpa [hd, he] using h.p3
    p4 := by simpa [hd, he] using h.p4
    p5 := fun _ h2 => absurd (by simp [hd, (h.o10 d10).1]) h2
    p6 := fun _ h2 => absurd (by simp [hd, d10]) h2
    p7 := by simpa [hd, he] using h.p7
    p8 := by simpa [hd, he] using h.p8
    p9 := by simpa [hd, he] using h.p9
    p10 := fun _ h2 => absurd (by simp [hd]) h2
    p11 := by simpa [hd, he] using h.p11
    p12 := by simpa [hd, he] using h.p12
    p13 := by simpa [hd, he] using h.p13
    p14 := by simpa [hd, he] using h.p14
    p15 := fun _ _ => by rw [he, if_pos rfl]; exact hv
    p16 := fun h1 => absurd (by simpa [hd] using h1) n16
  }

set_option maxHeartbeats 1000000 in
theorem Rot_16 {base : Array Value} {W0 : World} {lv lo hi : Value} {k m : Nat} {p : Addr} {xn : ByteArray} {xt : Bool} {xi : Int} {xs : ByteArray} {ys zs : List Value} {L : Array Bool} {a : Act} {w w' : World} {v : Value} (h : Rot base W0 lv lo hi k m p xn xt xi xs ys zs L a w) (hL : L.size = 17) (hb : base.size = 142) (hnd : ¬ done L 16) (d15 : done L 15) (d1 : done L 1) (d7 : done L 7) (d11 : done L 11) (hv : v = a.eval (.tmp 63)) :
    Rot base W0 lv lo hi k m p xn xt xi xs ys zs (L.setIfInBounds 16 true) (a.put (some 11) v) w := by
  have _ := hnd
  have _ := w'
  have hd := fun j => done_set (L := L) (i := 16) (by omega) j
  have hs : 11 < a.tmps.size := by rw [h.sz]; omega
  have he := fun j => eval_put a 11 v j hs
  exact {
    df := by simpa [Act.put] using h.df
    sz := by rw [size_put]; exact h.sz
    kp := fun j h1 h2 => (get_put a 11 v j h1).trans (h.kp j h1 h2)
    bel := h.bel
    q11 := fun h2 => absurd (by simp [hd]) h2
    q13 := by rw [he]; exact h.q13
    o6 := fun h1 => by have h2 := h.o6 (by simpa [hd] using h1); simp [hd, h2]
    o10 := fun h1 => by have h2 := h.o10 (by simpa [hd] using h1); simp [hd, h2]
    o15 := fun h1 => by have h2 := h.o15 (by simpa [hd] using h1); simp [hd, h2]
    o16 := fun _ => by simp [hd, d15, d1, d7, d11]
    p0 := by simpa [hd, he] using h.p0
    p1 := by simpa [hd, he] using h.p1
    p2 := by simpa [hd, he] using h.p2
    p3 := by simpa [hd, he] using h.p3
    p4 := by simpa [hd, he] using h.p4
    p5 := by simpa [hd, he] using h.p5
    p6 := by simpa [hd, he] using h.p6
    p7 := by simpa [hd, he] using h.p7
    p8 := by simpa [hd, he] using h.p8
    p9 := by simpa [hd, he] using h.p9
    p10 := by simpa [hd, he] using h.p10
    p11 := by simpa [hd, he] using h.p11
    p12 := by simpa [hd, he] using h.p12
    p13 := by simpa [hd, he] using h.p13
    p14 := by simpa [hd, he] using h.p14
    p15 := fun _ h2 => absurd (by simp [hd]) h2
    p16 := fun _ => by rw [he, if_pos rfl, hv]; exact h.p15 d15 hnd
  }

set_option maxRecDepth 100000 in
set_option maxHeartbeats 4000000 in
theorem Rot_any (Q : Exit → Act → World → Prop) (base : Array Value) (W0 : World) (lv lo hi : Value) (k m : Nat) (p : Addr) (xn : ByteArray) (xt : Bool) (xi : Int) (xs : ByteArray) (ys zs : List Value)
    (hb : base.size = 142) (b11 : base[11]? = some lv) (b13 : base[13]? = some (.int .i64 (k : Nat)))
    (hix : ∀ w, (Instr.indexAt 26 lv (.int .i64 (k : Nat))).run Tryd.prog w = .ok (.pointer (some p)) w)
    (hld : ∀ w, Below W0.heap.size W0 w → (Instr.loadAt 25 (.pointer (some p))).run Tryd.prog w = .ok (av (xn, xt, xi, xs)) w)
    (hlo : ∀ w, (Instr.sliceAt 26 lv none (some (.int .i64 (k : Nat))) none).run Tryd.prog w = .ok lo w)
    (hhi : ∀ w, (Instr.sliceAt 26 lv (some (.int .i64 ((k : Nat) + 1))) none none).run Tryd.prog w = .ok hi w)
    (slo : SrcA W0 lo k ys) (shi : SrcA W0 hi m zs) (oys : ∀ u ∈ ys, u.oneCell' = true) (ozs : ∀ u ∈ zs, u.oneCell' = true) (hk : k ≤ 100) (hm : m ≤ 100)
    (hQ : ∀ a w', a.defers = [] → a.tmps.size = 142 → (∀ j, j ≠ 11 → (j < 48 ∨ 63 < j) → a.tmps[j]? = base[j]?) → Below W0.heap.size W0 w' →
      w'.ownsRow W0.heap.size 25 4 (a.eval (.tmp 11)) (1 + k + m) ([.string xn, .bool xt, .int .i64 xi, .string xs] ++ ys ++ zs) → Q .normal a w') :
    Code.wp Tryd.prog puts7 Q ⟨base, []⟩ W0 := by
  conv => arg 2; whnf
  refine region_inv (fun L a w => Rot base W0 lv lo hi k m p xn xt xi xs ys zs L a w) (by kernel_rfl) (by kernel_rfl) ?_ ?_ ?_
  · have nd := fun j => none_done 17 j
    exact {
      df := rfl
      sz := rfl
      kp := fun _ _ _ => rfl
      bel := (Below.refl _ _).drew
      q11 := fun _ => eval_get rfl b11
      q13 := eval_get rfl b13
      o6 := fun h => absurd h (nd _)
      o10 := fun h => absurd h (nd _)
      o15 := fun h => absurd h (nd _)
      o16 := fun h => absurd h (nd _)
      p0 := fun h => absurd h (nd _)
      p1 := fun h => absurd h (nd _)
      p2 := fun h => absurd h (nd _)
      p3 := fun h => absurd h (nd _)
      p4 := fun h => absurd h (nd _)
      p5 := fun h => absurd h (nd _)
      p6 := fun h => absurd h (nd _)
      p7 := fun h => absurd h (nd _)
      p8 := fun h => absurd h (nd _)
      p9 := fun h => absurd h (nd _)
      p10 := fun h => absurd h (nd _)
      p11 := fun h => absurd h (nd _)
      p12 := fun h => absurd h (nd _)
      p13 := fun h => absurd h (nd _)
      p14 := fun h => absurd h (nd _)
      p15 := fun h => absurd h (nd _)
      p16 := fun h => absurd h (nd _) }
  · intro L a w i o hL h ho hnd hdep
    have hL2 : L.size = 17 := hL
    have hlt : i < 17 := (List.getElem?_eq_some_iff.1 ho).1
    match i, hlt, ho, hnd, hdep with
    | 0, _, ho, hnd, hdep =>
      obtain rfl := Option.some.inj ho
      exact op_value ho rfl (ex_build _ _ _ _ _ rfl (ps := #[]) (by simp) (run_slice0A w)) (Rot_0 (w' := w) h hL2 hb hnd rfl)
    | 1, _, ho, hnd, hdep =>
      obtain rfl := Option.some.inj ho
      exact op_value ho rfl (v := a.eval (.tmp 11)) (w' := w) (ex_move _ _ (.tmp 11) rfl w) (Rot_1 (w' := w) h hL2 hb hnd (h.q11 (fun x => hnd (h.o16 x).2.1)))
    | 2, _, ho, hnd, hdep =>
      obtain rfl := Option.some.inj ho
      exact op_value ho rfl (v := a.eval (.tmp 13)) (w' := w) (ex_move _ _ (.tmp 13) rfl w) (Rot_2 (w' := w) h hL2 hb hnd h.q13)
    | 3, _, ho, hnd, hdep =>
      obtain rfl := Option.some.inj ho
      have e1 := h.p1 (hdep ⟨1, .data⟩ (by simp) rfl)
      have e2 := h.p2 (hdep ⟨2, .data⟩ (by simp) rfl)
      exact op_value ho rfl (v := .pointer (some p)) (w' := w) (ex_index _ _ 26 (.tmp 49) (.tmp 50) rfl (by rw [e1, e2]; exact hix w)) (Rot_3 (w' := w) h hL2 hb hnd rfl)
    | 4, _, ho, hnd, hdep =>
      obtain rfl := Option.some.inj ho
      have e1 := h.p3 (hdep ⟨3, .data⟩ (by simp) rfl)
      exact op_value ho rfl (v := av (xn, xt, xi, xs)) (w' := w) (ex_load _ _ 25 (.tmp 51) rfl (by rw [e1]; exact hld w h.bel)) (Rot_4 (w' := w) h hL2 hb hnd rfl)
    | 5, _, ho, hnd, hdep =>
      obtain rfl := Option.some.inj ho
      have e5 := h.p4 (hdep ⟨4, .data⟩ (by simp) rfl)
      exact op_value ho rfl (ex_build _ _ _ _ _ rfl (by simp only [List.map_toArray, List.map_cons, List.map_nil, e5]) (run_slice1A xn xt xi xs w)) (Rot_5 (w' := w) h hL2 hb hnd rfl)
    | 6, _, ho, hnd, hdep =>
      obtain rfl := Option.some.inj ho
      have d0 := hdep ⟨0, .data⟩ (by simp) rfl
      have d5 := hdep ⟨5, .data⟩ (by simp) rfl
      obtain ⟨g, g1, g2, g3⟩ := h.p5 d5 hnd
      have hsrc : SrcA w (a.eval (.tmp 53)) 1 [.string xn, .bool xt, .int .i64 xi, .string xs] := Or.inr ⟨⟨g, 0, none⟩, 1, g2, rfl, lt_of_heap g3, fun j u hj => by
        have hc : w.cell? ⟨g, j, none⟩ = (#[.string xn, .bool xt, .int .i64 xi, .string xs] : Array Value)[j]? := by simp [World.cell?, g3]
        rw [show (⟨g, 0, none⟩ : Addr).add j = ⟨g, j, none⟩ by unfold Addr.add; split <;> simp_all, hc]
        simpa using hj⟩
      obtain ⟨v', w', r1, r2, r3⟩ := app_runA (W := w) W0.heap.size (h.p0 d0 hnd) hsrc (flatA_one [(xn, xt, xi, xs)]) (by omega) (by omega) h.bel.size 26
      exact op_value ho rfl (v := v') (w' := w') (ex_append _ _ (.tmp 48) (.tmp 53) 26 rfl rfl rfl r1) (Rot_6 h hL2 hb hnd d0 d5 (by simpa using r2) r3)
    | 7, _, ho, hnd, hdep =>
      obtain rfl := Option.some.inj ho
      exact op_value ho rfl (v := a.eval (.tmp 11)) (w' := w) (ex_move _ _ (.tmp 11) rfl w) (Rot_7 (w' := w) h hL2 hb hnd (h.q11 (fun x => hnd (h.o16 x).2.2.1)))
    | 8, _, ho, hnd, hdep =>
      obtain rfl := Option.some.inj ho
      exact op_value ho rfl (v := a.eval (.tmp 13)) (w' := w) (ex_move _ _ (.tmp 13) rfl w) (Rot_8 (w' := w) h hL2 hb hnd h.q13)
    | 9, _, ho, hnd, hdep =>
      obtain rfl := Option.some.inj ho
      have e1 := h.p7 (hdep ⟨7, .data⟩ (by simp) rfl)
      have e2 := h.p8 (hdep ⟨8, .data⟩ (by simp) rfl)
      exact op_value ho rfl (v := lo) (w' := w) (ex_slice _ _ 26 (.tmp 55) none (some (.tmp 56)) none rfl (by simp only [Option.map_some, Option.map_none, e1, e2]; exact hlo w)) (Rot_9 (w' := w) h hL2 hb hnd rfl)
    | 10, _, ho, hnd, hdep =>
      obtain rfl := Option.some.inj ho
      have d6 := hdep ⟨6, .data⟩ (by simp) rfl
      have d9 := hdep ⟨9, .data⟩ (by simp) rfl
      have ex := h.p9 d9
      obtain ⟨v', w', r1, r2, r3⟩ := app_runA (W := w) W0.heap.size (h.p6 d6 hnd) (slo.on h.bel) oys (by omega) (by omega) h.bel.size 26
      exact op_value ho rfl (v := v') (w' := w') (ex_append _ _ (.tmp 54) (.tmp 57) 26 rfl rfl ex r1) (Rot_10 h hL2 hb hnd d6 d9 (by simpa using r2) r3)
    | 11, _, ho, hnd, hdep =>
      obtain rfl := Option.some.inj ho
      exact op_value ho rfl (v := a.eval (.tmp 11)) (w' := w) (ex_move _ _ (.tmp 11) rfl w) (Rot_11 (w' := w) h hL2 hb hnd (h.q11 (fun x => hnd (h.o16 x).2.2.2)))
    | 12, _, ho, hnd, hdep =>
      obtain rfl := Option.some.inj ho
      exact op_value ho rfl (v := a.eval (.tmp 13)) (w' := w) (ex_move _ _ (.tmp 13) rfl w) (Rot_12 (w' := w) h hL2 hb hnd h.q13)
    | 13, _, ho, hnd, hdep =>
      obtain rfl := Option.some.inj ho
      have e1 := h.p12 (hdep ⟨12, .data⟩ (by simp) rfl)
      exact op_value ho rfl (v := .int .i64 ((k : Nat) + 1)) (w' := w) (ex_add1 _ _ (.tmp 60) rfl e1 (by omega) w) (Rot_13 (w' := w) h hL2 hb hnd rfl)
    | 14, _, ho, hnd, hdep =>
      obtain rfl := Option.some.inj ho
      have e1 := h.p11 (hdep ⟨11, .data⟩ (by simp) rfl)
      have e2 := h.p13 (hdep ⟨13, .data⟩ (by simp) rfl)
      exact op_value ho rfl (v := hi) (w' := w) (ex_slice _ _ 26 (.tmp 59) (some (.tmp 61)) none none rfl (by simp only [Option.map_some, Option.map_none, e1, e2]; exact hhi w)) (Rot_14 (w' := w) h hL2 hb hnd rfl)
    | 15, _, ho, hnd, hdep =>
      obtain rfl := Option.some.inj ho
      have d10 := hdep ⟨10, .data⟩ (by simp) rfl
      have d14 := hdep ⟨14, .data⟩ (by simp) rfl
      have ex := h.p14 d14
      obtain ⟨v', w', r1, r2, r3⟩ := app_runA (W := w) W0.heap.size (h.p10 d10 hnd) (shi.on h.bel) ozs (by omega) (by omega) h.bel.size 26
      exact op_value ho rfl (v := v') (w' := w') (ex_append _ _ (.tmp 58) (.tmp 62) 26 rfl rfl ex r1) (Rot_15 h hL2 hb hnd d10 d14 (by simpa using r2) r3)
    | 16, _, ho, hnd, hdep =>
      obtain rfl := Option.some.inj ho
      have d15 := hdep ⟨15, .data⟩ (by simp) rfl
      have d1 := hdep ⟨1, .phase⟩ (by simp) rfl
      have d7 := hdep ⟨7, .phase⟩ (by simp) rfl
      have d11 := hdep ⟨11, .phase⟩ (by simp) rfl
      exact op_value ho rfl (v := a.eval (.tmp 63)) (w' := w) (ex_assign _ _ (.tmp 63) rfl w) (Rot_16 (w' := w) h hL2 hb hnd d15 d1 d7 d11 rfl)
  · intro L a w h hd
    exact hQ a w h.df (h.sz.trans hb) h.kp h.bel (h.p16 (hd 16 (by decide)))
end Go.Proofs.YtpmhnmdienlgoaaDoor.At
