/-
  One insertion into a list of values, in whatever order its operations are taken: the list is a new row that holds the elder ones with the new one among them. Condition: lengths far below a machine's.
-/
import Derived.Test.YtdcddhckhbjkeaaDoorVaTells
import Derived.Test.YtdcddhckhbjkeaaDoorRg
namespace Go.Proofs.YtdcddhckhbjkeaaDoor.Va
open Go.RowKit Go.Proofs.YtdcddhckhbjkeaaDoor.Rg

/-- The cells of a list of values. -/
def flat : List (Bool × Int × ByteArray) → List Value
  | [] => []
  | (t, n, s) :: r => .bool t :: .int .i64 n :: .string s :: flat r
theorem flat_length : ∀ l, (flat l).length = l.length * 3
  | [] => rfl
  | (t, n, s) :: r => by simp [flat, flat_length r]; omega
theorem flat_append : ∀ a b, flat (a ++ b) = flat a ++ flat b
  | [], b => rfl
  | (t, n, s) :: r, b => by simp [flat, flat_append r b]
theorem flat_one : ∀ l, ∀ u ∈ flat l, u.oneCell' = true
  | [], u, h => by cases h
  | (t, n, s) :: r, u, h => by
    simp only [flat, List.mem_cons] at h
    rcases h with rfl | rfl | rfl | h
    · rfl
    · rfl
    · rfl
    · exact flat_one r u h

theorem infoP : (Tryd.prog.info? 24).map (fun i => (i.zero, i.size, i.bytes)) = some (some (.agg #[.bool false, .int .i64 0, .string ⟨#[]⟩]), 3, 32) := by kernel_rfl
theorem infoV : ∃ i, Tryd.prog.info? 24 = some i ∧ i.zero = some (.agg #[.bool false, .int .i64 0, .string ⟨#[]⟩]) ∧ i.size = 3 ∧ i.bytes = 32 := by
  have h := infoP
  cases hi : Tryd.prog.info? 24 with
  | none => rw [hi] at h; cases h
  | some i =>
    rw [hi] at h
    simp only [Option.map_some, Option.some.injEq, Prod.mk.injEq] at h
    exact ⟨i, rfl, h.1, h.2.1, h.2.2⟩

/-- A source of an append: nothing, or m elements whose cells lie in an elder world. -/
def Src (W : World) (x : Value) (m : Nat) (xs : List Value) : Prop :=
  (x = .slice none 0 0 ∧ m = 0 ∧ xs = []) ∨ ∃ (ad : Addr) (c : Nat), x = .slice (some ad) m c ∧ xs.length = m * 3 ∧ ad.block < W.heap.size ∧ ∀ j u, xs[j]? = some u → W.cell? (ad.add j) = some u
theorem Src.on {W W' : World} {x : Value} {m : Nat} {xs : List Value} (h : Src W x m xs) (hb : Below W.heap.size W W') : Src W' x m xs := by
  rcases h with h | ⟨ad, c, h1, h2, h3, h4⟩
  · exact Or.inl h
  · exact Or.inr ⟨ad, c, h1, h2, Nat.lt_of_lt_of_le h3 hb.size, fun j u hj => by
      have h5 := h4 j u hj
      rw [← h5]
      exact hb.cell (p := ad.add j) (by unfold Addr.add; split <;> exact h3)⟩
theorem app_run {W w : World} (B : Nat) {v x : Value} {n m : Nat} {xs ys : List Value} (hown : w.ownsRow B 24 3 v n xs) (hx : Src w x m ys) (h1 : ∀ u ∈ ys, u.oneCell' = true) (hn : n ≤ 1000) (hm : m ≤ 1000) (hB : B ≤ w.heap.size) (ty : TypeId) :
    ∃ v' w', (Builtin.append_ #[33, 33] ty #[v, x]).run Tryd.prog w = .ok v' w' ∧ w'.ownsRow B 24 3 v' (n + m) (xs ++ ys) ∧ w.grownBy w' v.ownBlock := by
  have _ := W
  obtain ⟨i, i1, i2, i3, i4⟩ := infoV
  rcases hx with ⟨rfl, rfl, rfl⟩ | ⟨ad, c, rfl, h2, h3, h4⟩
  · exact ⟨v, w, run_append_owned_none (P := Tryd.prog) (w := w) B 33 ty 24 i 3 Tryd.underlying33 i1 v n xs hown, by simpa using hown, grown_refl _ _⟩
  · obtain ⟨v', w', r1, r2, r3, _⟩ := run_append_own (P := Tryd.prog) w B 33 ty 24 i _ 3 32 Tryd.underlying33 i1 i2 i3 i4 rfl (by decide) v n xs hown ad m c ys h2 h4 h1 (by unfold maxLen; omega) (by omega) hB
    exact ⟨v', w', r1, r2, r3⟩

def findRegion (k : Nat) : Code → Option Code
  | .region id ops d => if id = k then some (.region id ops d) else none
  | .seq a b => match findRegion k a with
    | some c => some c
    | none => findRegion k b
  | .cond _ a b => match findRegion k a with
    | some c => some c
    | none => findRegion k b
  | .block _ c => findRegion k c
  | .loop c => findRegion k c
  | .scope c => findRegion k c
  | _ => none
noncomputable def sorts9 : Code := ((Tryd.f6.body.bind (findRegion 9)).getD .skip)

theorem run_slice0 (w : World) : (Instr.buildSlice 33 0 #[]).run Tryd.prog w = .ok (.slice (some ⟨w.heap.size, 0, none⟩) 0 0) (w.alloc (.cells #[] 24)) := by
  simp [go_sem, Tryd.underlying33]
theorem run_slice1 (t : Bool) (n : Int) (s : ByteArray) (w : World) : (Instr.buildSlice 33 1 #[(0, vl t n s)]).run Tryd.prog w = .ok (.slice (some ⟨w.heap.size, 0, none⟩) 1 1) (w.alloc (.cells #[.bool t, .int .i64 n, .string s] 24)) := by
  simp [go_sem, Tryd.underlying33]

theorem heapLast (w : World) (o : Obj) : (w.alloc o).heap[w.heap.size]? = some o := by show (w.heap.push _)[w.heap.size]? = _; simp
/-- What holds while the region runs: L: which operations are done. -/
structure Ins (base : Array Value) (W0 : World) (lv lo hi : Value) (at_ n : Nat) (pv : Value) (t : Bool) (k : Int) (s : ByteArray) (xs ys : List Value) (L : Array Bool) (a : Act) (w : World) : Prop where
  df : a.defers = []
  sz : a.tmps.size = base.size
  kp : ∀ j, j ≠ 3 → (j < 42 ∨ 53 < j) → a.tmps[j]? = base[j]?
  bel : Below W0.heap.size W0 w
  q3 : ¬ done L 12 → a.eval (.tmp 3) = lv
  q5 : a.eval (.tmp 5) = pv
  q6 : a.eval (.tmp 6) = .int .i64 at_
  o1 : done L 4 → done L 0 ∧ done L 3
  o2 : done L 7 → done L 4 ∧ done L 6
  o3 : done L 11 → done L 7 ∧ done L 10
  o4 : done L 12 → done L 11 ∧ done L 1 ∧ done L 8
  p1 : done L 1 → a.eval (.tmp 43) = lv
  p2 : done L 2 → a.eval (.tmp 44) = .int .i64 at_
  p3 : done L 3 → a.eval (.tmp 45) = lo
  p5 : done L 5 → a.eval (.tmp 47) = vl t k s
  p8 : done L 8 → a.eval (.tmp 50) = lv
  p9 : done L 9 → a.eval (.tmp 51) = .int .i64 at_
  p10 : done L 10 → a.eval (.tmp 52) = hi
  p0 : done L 0 → ¬ done L 4 → w.ownsRow W0.heap.size 24 3 (a.eval (.tmp 42)) 0 []
  p6 : done L 6 → ¬ done L 7 → ∃ g, W0.heap.size ≤ g ∧ a.eval (.tmp 48) = .slice (some ⟨g, 0, none⟩) 1 1 ∧ w.heap[g]? = some (.cells #[.bool t, .int .i64 k, .string s] 24 (0, 0)) ∧ (done L 0 → ¬ done L 4 → (a.eval (.tmp 42)).ownBlock ≠ some g)
  p4 : done L 4 → ¬ done L 7 → w.ownsRow W0.heap.size 24 3 (a.eval (.tmp 46)) at_ xs
  p7 : done L 7 → ¬ done L 11 → w.ownsRow W0.heap.size 24 3 (a.eval (.tmp 49)) (at_ + 1) (xs ++ [.bool t, .int .i64 k, .string s])
  p11 : done L 11 → ¬ done L 12 → w.ownsRow W0.heap.size 24 3 (a.eval (.tmp 53)) (at_ + 1 + n) (xs ++ [.bool t, .int .i64 k, .string s] ++ ys)
  p12 : done L 12 → w.ownsRow W0.heap.size 24 3 (a.eval (.tmp 3)) (at_ + 1 + n) (xs ++ [.bool t, .int .i64 k, .string s] ++ ys)

set_option maxHeartbeats 1000000 in
theorem ins_1 {base : Array Value} {W0 : World} {lv lo hi : Value} {at_ n : Nat} {pv : Value} {t : Bool} {k : Int} {s : ByteArray} {xs ys : List Value} {L : Array Bool} {a : Act} {w w' : World} {v : Value} (h : Ins base W0 lv lo hi at_ n pv t k s xs ys L a w) (hL : L.size = 13) (hb : base.size = 135)
    (hnd : ¬ done L 1) (hv : v = lv) :
    Ins base W0 lv lo hi at_ n pv t k s xs ys (L.setIfInBounds 1 true) (a.put (some 43) v) w := by
  have hd := fun j => done_set (L := L) (i := 1) (by omega) j
  have hs : 43 < a.tmps.size := by rw [h.sz]; omega
  have he := fun j => eval_put a 43 v j hs
  exact {
    df := by simpa [Act.put] using h.df
    sz := by rw [size_put]; exact h.sz
    kp := fun j h1 h2 => (get_put a 43 v j (by omega)).trans (h.kp j h1 h2)
    bel := h.bel
    q3 := by simpa [hd, he] using h.q3
    q5 := by rw [he]; exact h.q5
    q6 := by rw [he]; exact h.q6
    o1 := fun h1 => by have h2 := h.o1 (by simpa [hd] using h1); simp [hd, h2]
    o2 := fun h1 => by have h2 := h.o2 (by simpa [hd] using h1); simp [hd, h2]
    o3 := fun h1 => by have h2 := h.o3 (by simpa [hd] using h1); simp [hd, h2]
    o4 := fun h1 => by have h2 := h.o4 (by simpa [hd] using h1); simp [hd, h2]
    p1 := fun _ => by rw [he]; simpa using hv
    p2 := by simpa [hd, he] using h.p2
    p3 := by simpa [hd, he] using h.p3
    p5 := by simpa [hd, he] using h.p5
    p8 := by simpa [hd, he] using h.p8
    p9 := by simpa [hd, he] using h.p9
    p10 := by simpa [hd, he] using h.p10
    p0 := by simpa [hd, he] using h.p0
    p6 := by simpa [hd, he] using h.p6
    p4 := by simpa [hd, he] using h.p4
    p7 := by simpa [hd, he] using h.p7
    p11 := by simpa [hd, he] using h.p11
    p12 := by simpa [hd, he] using h.p12
  }

set_option maxHeartbeats 1000000 in
theorem ins_2 {base : Array Value} {W0 : World} {lv lo hi : Value} {at_ n : Nat} {pv : Value} {t : Bool} {k : Int} {s : ByteArray} {xs ys : List Value} {L : Array Bool} {a : Act} {w w' : World} {v : Value} (h : Ins base W0 lv lo hi at_ n pv t k s xs ys L a w) (hL : L.size = 13) (hb : base.size = 135)
    (hnd : ¬ done L 2) (hv : v = .int .i64 at_) :
    Ins base W0 lv lo hi at_ n pv t k s xs ys (L.setIfInBounds 2 true) (a.put (some 44) v) w := by
  have hd := fun j => done_set (L := L) (i := 2) (by omega) j
  have hs : 44 < a.tmps.size := by rw [h.sz]; omega
  have he := fun j => eval_put a 44 v j hs
  exact {
    df := by simpa [Act.put] using h.df
    sz := by rw [size_put]; exact h.sz
    kp := fun j h1 h2 => (get_put a 44 v j (by omega)).trans (h.kp j h1 h2)
    bel := h.bel
    q3 := by simpa [hd, he] using h.q3
    q5 := by rw [he]; exact h.q5
    q6 := by rw [he]; exact h.q6
    o1 := fun h1 => by have h2 := h.o1 (by simpa [hd] using h1); simp [hd, h2]
    o2 := fun h1 => by have h2 := h.o2 (by simpa [hd] using h1); simp [hd, h2]
    o3 := fun h1 => by have h2 := h.o3 (by simpa [hd] using h1); simp [hd, h2]
    o4 := fun h1 => by have h2 := h.o4 (by simpa [hd] using h1); simp [hd, h2]
    p1 := by simpa [hd, he] using h.p1
    p2 := fun _ => by rw [he]; simpa using hv
    p3 := by simpa [hd, he] using h.p3
    p5 := by simpa [hd, he] using h.p5
    p8 := by simpa [hd, he] using h.p8
    p9 := by simpa [hd, he] using h.p9
    p10 := by simpa [hd, he] using h.p10
    p0 := by simpa [hd, he] using h.p0
    p6 := by simpa [hd, he] using h.p6
    p4 := by simpa [hd, he] using h.p4
    p7 := by simpa [hd, he] using h.p7
    p11 := by simpa [hd, he] using h.p11
    p12 := by simpa [hd, he] using h.p12
  }

set_option maxHeartbeats 1000000 in
theorem ins_3 {base : Array Value} {W0 : World} {lv lo hi : Value} {at_ n : Nat} {pv : Value} {t : Bool} {k : Int} {s : ByteArray} {xs ys : List Value} {L : Array Bool} {a : Act} {w w' : World} {v : Value} (h : Ins base W0 lv lo hi at_ n pv t k s xs ys L a w) (hL : L.size = 13) (hb : base.size = 135)
    (hnd : ¬ done L 3) (hv : v = lo) :
    Ins base W0 lv lo hi at_ n pv t k s xs ys (L.setIfInBounds 3 true) (a.put (some 45) v) w := by
  have hd := fun j => done_set (L := L) (i := 3) (by omega) j
  have hs : 45 < a.tmps.size := by rw [h.sz]; omega
  have he := fun j => eval_put a 45 v j hs
  exact {
    df := by simpa [Act.put] using h.df
    sz := by rw [size_put]; exact h.sz
    kp := fun j h1 h2 => (get_put a 45 v j (by omega)).trans (h.kp j h1 h2)
    bel := h.bel
    q3 := by simpa [hd, he] using h.q3
    q5 := by rw [he]; exact h.q5
    q6 := by rw [he]; exact h.q6
    o1 := fun h1 => by have h2 := h.o1 (by simpa [hd] using h1); simp [hd, h2]
    o2 := fun h1 => by have h2 := h.o2 (by simpa [hd] using h1); simp [hd, h2]
    o3 := fun h1 => by have h2 := h.o3 (by simpa [hd] using h1); simp [hd, h2]
    o4 := fun h1 => by have h2 := h.o4 (by simpa [hd] using h1); simp [hd, h2]
    p1 := by simpa [hd, he] using h.p1
    p2 := by simpa [hd, he] using h.p2
    p3 := fun _ => by rw [he]; simpa using hv
    p5 := by simpa [hd, he] using h.p5
    p8 := by simpa [hd, he] using h.p8
    p9 := by simpa [hd, he] using h.p9
    p10 := by simpa [hd, he] using h.p10
    p0 := by simpa [hd, he] using h.p0
    p6 := by simpa [hd, he] using h.p6
    p4 := by simpa [hd, he] using h.p4
    p7 := by simpa [hd, he] using h.p7
    p11 := by simpa [hd, he] using h.p11
    p12 := by simpa [hd, he] using h.p12
  }

set_option maxHeartbeats 1000000 in
theorem ins_5 {base : Array Value} {W0 : World} {lv lo hi : Value} {at_ n : Nat} {pv : Value} {t : Bool} {k : Int} {s : ByteArray} {xs ys : List Value} {L : Array Bool} {a : Act} {w w' : World} {v : Value} (h : Ins base W0 lv lo hi at_ n pv t k s xs ys L a w) (hL : L.size = 13) (hb : base.size = 135)
    (hnd : ¬ done L 5) (hv : v = vl t k s) :
    Ins base W0 lv lo hi at_ n pv t k s xs ys (L.setIfInBounds 5 true) (a.put (some 47) v) w := by
  have hd := fun j => done_set (L := L) (i := 5) (by omega) j
  have hs : 47 < a.tmps.size := by rw [h.sz]; omega
  have he := fun j => eval_put a 47 v j hs
  exact {
    df := by simpa [Act.put] using h.df
    sz := by rw [size_put]; exact h.sz
    kp := fun j h1 h2 => (get_put a 47 v j (by omega)).trans (h.kp j h1 h2)
    bel := h.bel
    q3 := by simpa [hd, he] using h.q3
    q5 := by rw [he]; exact h.q5
    q6 := by rw [he]; exact h.q6
    o1 := fun h1 => by have h2 := h.o1 (by simpa [hd] using h1); simp [hd, h2]
    o2 := fun h1 => by have h2 := h.o2 (by simpa [hd] using h1); simp [hd, h2]
    o3 := fun h1 => by have h2 := h.o3 (by simpa [hd] using h1); simp [hd, h2]
    o4 := fun h1 => by have h2 := h.o4 (by simpa [hd] using h1); simp [hd, h2]
    p1 := by simpa [hd, he] using h.p1
    p2 := by simpa [hd, he] using h.p2
    p3 := by simpa [hd, he] using h.p3
    p5 := fun _ => by rw [he]; simpa using hv
    p8 := by simpa [hd, he] using h.p8
    p9 := by simpa [hd, he] using h.p9
    p10 := by simpa [hd, he] using h.p10
    p0 := by simpa [hd, he] using h.p0
    p6 := by simpa [hd, he] using h.p6
    p4 := by simpa [hd, he] using h.p4
    p7 := by simpa [hd, he] using h.p7
    p11 := by simpa [hd, he] using h.p11
    p12 := by simpa [hd, he] using h.p12
  }

set_option maxHeartbeats 1000000 in
theorem ins_8 {base : Array Value} {W0 : World} {lv lo hi : Value} {at_ n : Nat} {pv : Value} {t : Bool} {k : Int} {s : ByteArray} {xs ys : List Value} {L : Array Bool} {a : Act} {w w' : World} {v : Value} (h : Ins base W0 lv lo hi at_ n pv t k s xs ys L a w) (hL : L.size = 13) (hb : base.size = 135)
    (hnd : ¬ done L 8) (hv : v = lv) :
    Ins base W0 lv lo hi at_ n pv t k s xs ys (L.setIfInBounds 8 true) (a.put (some 50) v) w := by
  have hd := fun j => done_set (L := L) (i := 8) (by omega) j
  have hs : 50 < a.tmps.size := by rw [h.sz]; omega
  have he := fun j => eval_put a 50 v j hs
  exact {
    df := by simpa [Act.put] using h.df
    sz := by rw [size_put]; exact h.sz
    kp := fun j h1 h2 => (get_put a 50 v j (by omega)).trans (h.kp j h1 h2)
    bel := h.bel
    q3 := by simpa [hd, he] using h.q3
    q5 := by rw [he]; exact h.q5
    q6 := by rw [he]; exact h.q6
    o1 := fun h1 => by have h2 := h.o1 (by simpa [hd] using h1); simp [hd, h2]
    o2 := fun h1 => by have h2 := h.o2 (by simpa [hd] using h1); simp [hd, h2]
    o3 := fun h1 => by have h2 := h.o3 (by simpa [hd] using h1); simp [hd, h2]
    o4 := fun h1 => by have h2 := h.o4 (by simpa [hd] using h1); simp [hd, h2]
    p1 := by simpa [hd, he] using h.p1
    p2 := by simpa [hd, he] using h.p2
    p3 := by simpa [hd, he] using h.p3
    p5 := by simpa [hd, he] using h.p5
    p8 := fun _ => by rw [he]; simpa using hv
    p9 := by simpa [hd, he] using h.p9
    p10 := by simpa [hd, he] using h.p10
    p0 := by simpa [hd, he] using h.p0
    p6 := by simpa [hd, he] using h.p6
    p4 := by simpa [hd, he] using h.p4
    p7 := by simpa [hd, he] using h.p7
    p11 := by simpa [hd, he] using h.p11
    p12 := by simpa [hd, he] using h.p12
  }

set_option maxHeartbeats 1000000 in
theorem ins_9 {base : Array Value} {W0 : World} {lv lo hi : Value} {at_ n : Nat} {pv : Value} {t : Bool} {k : Int} {s : ByteArray} {xs ys : List Value} {L : Array Bool} {a : Act} {w w' : World} {v : Value} (h : Ins base W0 lv lo hi at_ n pv t k s xs ys L a w) (hL : L.size = 13) (hb : base.size = 135)
    (hnd : ¬ done L 9) (hv : v = .int .i64 at_) :
    Ins base W0 lv lo hi at_ n pv t k s xs ys (L.setIfInBounds 9 true) (a.put (some 51) v) w := by
  have hd := fun j => done_set (L := L) (i := 9) (by omega) j
  have hs : 51 < a.tmps.size := by rw [h.sz]; omega
  have he := fun j => eval_put a 51 v j hs
  exact {
    df := by simpa [Act.put] using h.df
    sz := by rw [size_put]; exact h.sz
    kp := fun j h1 h2 => (get_put a 51 v j (by omega)).trans (h.kp j h1 h2)
    bel := h.bel
    q3 := by simpa [hd, he] using h.q3
    q5 := by rw [he]; exact h.q5
    q6 := by rw [he]; exact h.q6
    o1 := fun h1 => by have h2 := h.o1 (by simpa [hd] using h1); simp [hd, h2]
    o2 := fun h1 => by have h2 := h.o2 (by simpa [hd] using h1); simp [hd, h2]
    o3 := fun h1 => by have h2 := h.o3 (by simpa [hd] using h1); simp [hd, h2]
    o4 := fun h1 => by have h2 := h.o4 (by simpa [hd] using h1); simp [hd, h2]
    p1 := by simpa [hd, he] using h.p1
    p2 := by simpa [hd, he] using h.p2
    p3 := by simpa [hd, he] using h.p3
    p5 := by simpa [hd, he] using h.p5
    p8 := by simpa [hd, he] using h.p8
    p9 := fun _ => by rw [he]; simpa using hv
    p10 := by simpa [hd, he] using h.p10
    p0 := by simpa [hd, he] using h.p0
    p6 := by simpa [hd, he] using h.p6
    p4 := by simpa [hd, he] using h.p4
    p7 := by simpa [hd, he] using h.p7
    p11 := by simpa [hd, he] using h.p11
    p12 := by simpa [hd, he] using h.p12
  }

set_option maxHeartbeats 1000000 in
theorem ins_10 {base : Array Value} {W0 : World} {lv lo hi : Value} {at_ n : Nat} {pv : Value} {t : Bool} {k : Int} {s : ByteArray} {xs ys : List Value} {L : Array Bool} {a : Act} {w w' : World} {v : Value} (h : Ins base W0 lv lo hi at_ n pv t k s xs ys L a w) (hL : L.size = 13) (hb : base.size = 135)
    (hnd : ¬ done L 10) (hv : v = hi) :
    Ins base W0 lv lo hi at_ n pv t k s xs ys (L.setIfInBounds 10 true) (a.put (some 52) v) w := by
  have hd := fun j => done_set (L := L) (i := 10) (by omega) j
  have hs : 52 < a.tmps.size := by rw [h.sz]; omega
  have he := fun j => eval_put a 52 v j hs
  exact {
    df := by simpa [Act.put] using h.df
    sz := by rw [size_put]; exact h.sz
    kp := fun j h1 h2 => (get_put a 52 v j (by omega)).trans (h.kp j h1 h2)
    bel := h.bel
    q3 := by simpa [hd, he] using h.q3
    q5 := by rw [he]; exact h.q5
    q6 := by rw [he]; exact h.q6
    o1 := fun h1 => by have h2 := h.o1 (by simpa [hd] using h1); simp [hd, h2]
    o2 := fun h1 => by have h2 := h.o2 (by simpa [hd] using h1); simp [hd, h2]
    o3 := fun h1 => by have h2 := h.o3 (by simpa [hd] using h1); simp [hd, h2]
    o4 := fun h1 => by have h2 := h.o4 (by simpa [hd] using h1); simp [hd, h2]
    p1 := by simpa [hd, he] using h.p1
    p2 := by simpa [hd, he] using h.p2
    p3 := by simpa [hd, he] using h.p3
    p5 := by simpa [hd, he] using h.p5
    p8 := by simpa [hd, he] using h.p8
    p9 := by simpa [hd, he] using h.p9
    p10 := fun _ => by rw [he]; simpa using hv
    p0 := by simpa [hd, he] using h.p0
    p6 := by simpa [hd, he] using h.p6
    p4 := by simpa [hd, he] using h.p4
    p7 := by simpa [hd, he] using h.p7
    p11 := by simpa [hd, he] using h.p11
    p12 := by simpa [hd, he] using h.p12
  }

theorem lt_of_heap {w : World} {b : Nat} {o : Obj} (h : w.heap[b]? = some o) : b < w.heap.size := by
  rcases Nat.lt_or_ge b w.heap.size with h0 | h0
  · exact h0
  · simp [Array.getElem?_eq_none h0] at h

set_option maxHeartbeats 1000000 in
theorem ins_0 {base : Array Value} {W0 : World} {lv lo hi : Value} {at_ n : Nat} {pv : Value} {t : Bool} {k : Int} {s : ByteArray} {xs ys : List Value} {L : Array Bool} {a : Act} {w w' : World} {v : Value} (h : Ins base W0 lv lo hi at_ n pv t k s xs ys L a w) (hL : L.size = 13) (hb : base.size = 135)
    (hnd : ¬ done L 0) (hv : v = .slice (some ⟨w.heap.size, 0, none⟩) 0 0) :
    Ins base W0 lv lo hi at_ n pv t k s xs ys (L.setIfInBounds 0 true) (a.put (some 42) v) (w.alloc (.cells #[] 24)) := by
  have hd := fun j => done_set (L := L) (i := 0) (by omega) j
  have hs : 42 < a.tmps.size := by rw [h.sz]; omega
  have he := fun j => eval_put a 42 v j hs
  have n4 : ¬ done L 4 := fun x => hnd (h.o1 x).1
  have n7 : ¬ done L 7 := fun x => n4 (h.o2 x).1
  have n11 : ¬ done L 11 := fun x => n7 (h.o3 x).1
  have n12 : ¬ done L 12 := fun x => n11 (h.o4 x).1
  exact {
    df := by simpa [Act.put] using h.df
    sz := by rw [size_put]; exact h.sz
    kp := fun j h1 h2 => (get_put a 42 v j (by omega)).trans (h.kp j h1 h2)
    bel := h.bel.alloc h.bel.size _
    q3 := by simpa [hd, he] using h.q3
    q5 := by rw [he]; exact h.q5
    q6 := by rw [he]; exact h.q6
    o1 := fun h1 => by have h2 := h.o1 (by simpa [hd] using h1); simp [hd, h2]
    o2 := fun h1 => by have h2 := h.o2 (by simpa [hd] using h1); simp [hd, h2]
    o3 := fun h1 => by have h2 := h.o3 (by simpa [hd] using h1); simp [hd, h2]
    o4 := fun h1 => by have h2 := h.o4 (by simpa [hd] using h1); simp [hd, h2]
    p1 := by simpa [hd, he] using h.p1
    p2 := by simpa [hd, he] using h.p2
    p3 := by simpa [hd, he] using h.p3
    p5 := by simpa [hd, he] using h.p5
    p8 := by simpa [hd, he] using h.p8
    p9 := by simpa [hd, he] using h.p9
    p10 := by simpa [hd, he] using h.p10
    p0 := fun _ _ => by rw [he, if_pos rfl, hv]; exact World.ownsRow_made w #[] 0 h.bel.size (by decide) rfl
    p6 := fun h1 h2 => by
      obtain ⟨g, g1, g2, g3, _⟩ := h.p6 (by simpa [hd] using h1) n7
      have hlt := lt_of_heap g3
      refine ⟨g, g1, by rw [he]; simpa using g2, by rw [Below.heap_alloc _ _ _ hlt]; exact g3, fun _ _ => ?_⟩
      rw [he, if_pos rfl, hv]
      simp [Value.ownBlock]
      omega
    p4 := fun h1 _ => absurd (by simpa [hd] using h1) n4
    p7 := fun h1 _ => absurd (by simpa [hd] using h1) n7
    p11 := fun h1 _ => absurd (by simpa [hd] using h1) n11
    p12 := fun h1 => absurd (by simpa [hd] using h1) n12
  }

set_option maxHeartbeats 1000000 in
theorem ins_6 {base : Array Value} {W0 : World} {lv lo hi : Value} {at_ n : Nat} {pv : Value} {t : Bool} {k : Int} {s : ByteArray} {xs ys : List Value} {L : Array Bool} {a : Act} {w w' : World} {v : Value} (h : Ins base W0 lv lo hi at_ n pv t k s xs ys L a w) (hL : L.size = 13) (hb : base.size = 135)
    (hnd : ¬ done L 6) (hv : v = .slice (some ⟨w.heap.size, 0, none⟩) 1 1) :
    Ins base W0 lv lo hi at_ n pv t k s xs ys (L.setIfInBounds 6 true) (a.put (some 48) v) (w.alloc (.cells #[.bool t, .int .i64 k, .string s] 24)) := by
  have hd := fun j => done_set (L := L) (i := 6) (by omega) j
  have hs : 48 < a.tmps.size := by rw [h.sz]; omega
  have he := fun j => eval_put a 48 v j hs
  have n7 : ¬ done L 7 := fun x => hnd (h.o2 x).2
  have n11 : ¬ done L 11 := fun x => n7 (h.o3 x).1
  have n12 : ¬ done L 12 := fun x => n11 (h.o4 x).1
  exact {
    df := by simpa [Act.put] using h.df
    sz := by rw [size_put]; exact h.sz
    kp := fun j h1 h2 => (get_put a 48 v j (by omega)).trans (h.kp j h1 h2)
    bel := h.bel.alloc h.bel.size _
    q3 := by simpa [hd, he] using h.q3
    q5 := by rw [he]; exact h.q5
    q6 := by rw [he]; exact h.q6
    o1 := fun h1 => by have h2 := h.o1 (by simpa [hd] using h1); simp [hd, h2]
    o2 := fun h1 => by have h2 := h.o2 (by simpa [hd] using h1); simp [hd, h2]
    o3 := fun h1 => by have h2 := h.o3 (by simpa [hd] using h1); simp [hd, h2]
    o4 := fun h1 => by have h2 := h.o4 (by simpa [hd] using h1); simp [hd, h2]
    p1 := by simpa [hd, he] using h.p1
    p2 := by simpa [hd, he] using h.p2
    p3 := by simpa [hd, he] using h.p3
    p5 := by simpa [hd, he] using h.p5
    p8 := by simpa [hd, he] using h.p8
    p9 := by simpa [hd, he] using h.p9
    p10 := by simpa [hd, he] using h.p10
    p0 := fun h1 h2 => by rw [he]; simpa using (h.p0 (by simpa [hd] using h1) (by simpa [hd] using h2)).alloc _
    p6 := fun _ _ => by
      refine ⟨w.heap.size, h.bel.size, by rw [he, if_pos rfl, hv], heapLast w _, fun h3 h4 => ?_⟩
      rw [he]
      intro h5
      have h6 := (h.p0 (by simpa [hd] using h3) (by simpa [hd] using h4)).lt w.heap.size (by simpa using h5)
      omega
    p4 := fun h1 _ => by rw [he]; simpa using (h.p4 (by simpa [hd] using h1) n7).alloc _
    p7 := fun h1 _ => absurd (by simpa [hd] using h1) n7
    p11 := fun h1 _ => absurd (by simpa [hd] using h1) n11
    p12 := fun h1 => absurd (by simpa [hd] using h1) n12
  }

set_option maxHeartbeats 1000000 in
theorem ins_4 {base : Array Value} {W0 : World} {lv lo hi : Value} {at_ n : Nat} {pv : Value} {t : Bool} {k : Int} {s : ByteArray} {xs ys : List Value} {L : Array Bool} {a : Act} {w w' : World} {v : Value} (h : Ins base W0 lv lo hi at_ n pv t k s xs ys L a w) (hL : L.size = 13) (hb : base.size = 135)
    (hnd : ¬ done L 4) (d0 : done L 0) (d3 : done L 3) (hv : w'.ownsRow W0.heap.size 24 3 v at_ xs) (hg : w.grownBy w' (a.eval (.tmp 42)).ownBlock) :
    Ins base W0 lv lo hi at_ n pv t k s xs ys (L.setIfInBounds 4 true) (a.put (some 46) v) w' := by
  have hd := fun j => done_set (L := L) (i := 4) (by omega) j
  have hs : 46 < a.tmps.size := by rw [h.sz]; omega
  have he := fun j => eval_put a 46 v j hs
  have n4 := hnd
  have n7 : ¬ done L 7 := fun x => n4 (h.o2 x).1
  have n11 : ¬ done L 11 := fun x => n7 (h.o3 x).1
  have n12 : ¬ done L 12 := fun x => n11 (h.o4 x).1
  exact {
    df := by simpa [Act.put] using h.df
    sz := by rw [size_put]; exact h.sz
    kp := fun j h1 h2 => (get_put a 46 v j (by omega)).trans (h.kp j h1 h2)
    bel := h.bel.grown hg h.bel.size (fun j hj => ((h.p0 d0 hnd).lt j hj).1)
    q3 := by simpa [hd, he] using h.q3
    q5 := by rw [he]; exact h.q5
    q6 := by rw [he]; exact h.q6
    o1 := fun _ => by simp [hd, d0, d3]
    o2 := fun h1 => by have h2 := h.o2 (by simpa [hd] using h1); simp [hd, h2]
    o3 := fun h1 => by have h2 := h.o3 (by simpa [hd] using h1); simp [hd, h2]
    o4 := fun h1 => by have h2 := h.o4 (by simpa [hd] using h1); simp [hd, h2]
    p1 := by simpa [hd, he] using h.p1
    p2 := by simpa [hd, he] using h.p2
    p3 := by simpa [hd, he] using h.p3
    p5 := by simpa [hd, he] using h.p5
    p8 := by simpa [hd, he] using h.p8
    p9 := by simpa [hd, he] using h.p9
    p10 := by simpa [hd, he] using h.p10
    p0 := fun _ h2 => absurd (by simp [hd]) h2
    p6 := fun h1 _ => by
      obtain ⟨g, g1, g2, g3, g4⟩ := h.p6 (by simpa [hd] using h1) n7
      refine ⟨g, g1, by rw [he]; simpa using g2, (hg.block g (lt_of_heap g3) (fun e => g4 d0 hnd e.symm)).trans g3, fun _ h4 => absurd (by simp [hd]) h4⟩
    p4 := fun _ _ => by rw [he, if_pos rfl]; exact hv
    p7 := fun h1 _ => absurd (by simpa [hd] using h1) n7
    p11 := fun h1 _ => absurd (by simpa [hd] using h1) n11
    p12 := fun h1 => absurd (by simpa [hd] using h1) n12
  }

set_option maxHeartbeats 1000000 in
theorem ins_7 {base : Array Value} {W0 : World} {lv lo hi : Value} {at_ n : Nat} {pv : Value} {t : Bool} {k : Int} {s : ByteArray} {xs ys : List Value} {L : Array Bool} {a : Act} {w w' : World} {v : Value} (h : Ins base W0 lv lo hi at_ n pv t k s xs ys L a w) (hL : L.size = 13) (hb : base.size = 135)
    (hnd : ¬ done L 7) (d4 : done L 4) (d6 : done L 6) (hv : w'.ownsRow W0.heap.size 24 3 v (at_ + 1) (xs ++ [.bool t, .int .i64 k, .string s])) (hg : w.grownBy w' (a.eval (.tmp 46)).ownBlock) :
    Ins base W0 lv lo hi at_ n pv t k s xs ys (L.setIfInBounds 7 true) (a.put (some 49) v) w' := by
  have hd := fun j => done_set (L := L) (i := 7) (by omega) j
  have hs : 49 < a.tmps.size := by rw [h.sz]; omega
  have he := fun j => eval_put a 49 v j hs
  have n7 := hnd
  have n11 : ¬ done L 11 := fun x => n7 (h.o3 x).1
  have n12 : ¬ done L 12 := fun x => n11 (h.o4 x).1
  exact {
    df := by simpa [Act.put] using h.df
    sz := by rw [size_put]; exact h.sz
    kp := fun j h1 h2 => (get_put a 49 v j (by omega)).trans (h.kp j h1 h2)
    bel := h.bel.grown hg h.bel.size (fun j hj => ((h.p4 d4 hnd).lt j hj).1)
    q3 := by simpa [hd, he] using h.q3
    q5 := by rw [he]; exact h.q5
    q6 := by rw [he]; exact h.q6
    o1 := fun h1 => by have h2 := h.o1 (by simpa [hd] using h1); simp [hd, h2]
    o2 := fun _ => by simp [hd, d4, d6]
    o3 := fun h1 => by have h2 := h.o3 (by simpa [hd] using h1); simp [hd, h2]
    o4 := fun h1 => by have h2 := h.o4 (by simpa [hd] using h1); simp [hd, h2]
    p1 := by simpa [hd, he] using h.p1
    p2 := by simpa [hd, he] using h.p2
    p3 := by simpa [hd, he] using h.p3
    p5 := by simpa [hd, he] using h.p5
    p8 := by simpa [hd, he] using h.p8
    p9 := by simpa [hd, he] using h.p9
    p10 := by simpa [hd, he] using h.p10
    p0 := fun _ h2 => absurd (by simp [hd, d4]) h2
    p6 := fun _ h2 => absurd (by simp [hd]) h2
    p4 := fun _ h2 => absurd (by simp [hd]) h2
    p7 := fun _ _ => by rw [he, if_pos rfl]; exact hv
    p11 := fun h1 _ => absurd (by simpa [hd] using h1) n11
    p12 := fun h1 => absurd (by simpa [hd] using h1) n12
  }

set_option maxHeartbeats 1000000 in
theorem ins_11 {base : Array Value} {W0 : World} {lv lo hi : Value} {at_ n : Nat} {pv : Value} {t : Bool} {k : Int} {s : ByteArray} {xs ys : List Value} {L : Array Bool} {a : Act} {w w' : World} {v : Value} (h : Ins base W0 lv lo hi at_ n pv t k s xs ys L a w) (hL : L.size = 13) (hb : base.size = 135)
    (hnd : ¬ done L 11) (d7 : done L 7) (d10 : done L 10) (hv : w'.ownsRow W0.heap.size 24 3 v (at_ + 1 + n) (xs ++ [.bool t, .int .i64 k, .string s] ++ ys)) (hg : w.grownBy w' (a.eval (.tmp 49)).ownBlock) :
    Ins base W0 lv lo hi at_ n pv t k s xs ys (L.setIfInBounds 11 true) (a.put (some 53) v) w' := by
  have hd := fun j => done_set (L := L) (i := 11) (by omega) j
  have hs : 53 < a.tmps.size := by rw [h.sz]; omega
  have he := fun j => eval_put a 53 v j hs
  have n11 := hnd
  have n12 : ¬ done L 12 := fun x => n11 (h.o4 x).1
  exact {
    df := by simpa [Act.put] using h.df
    sz := by rw [size_put]; exact h.sz
    kp := fun j h1 h2 => (get_put a 53 v j (by omega)).trans (h.kp j h1 h2)
    bel := h.bel.grown hg h.bel.size (fun j hj => ((h.p7 d7 hnd).lt j hj).1)
    q3 := by simpa [hd, he] using h.q3
    q5 := by rw [he]; exact h.q5
    q6 := by rw [he]; exact h.q6
    o1 := fun h1 => by have h2 := h.o1 (by simpa [hd] using h1); simp [hd, h2]
    o2 := fun h1 => by have h2 := h.o2 (by simpa [hd] using h1); simp [hd, h2]
    o3 := fun _ => by simp [hd, d7, d10]
    o4 := fun h1 => by have h2 := h.o4 (by simpa [hd] using h1); simp [hd, h2]
    p1 := by simpa [hd, he] using h.p1
    p2 := by simpa [hd, he] using h.p2
    p3 := by simpa [hd, he] using h.p3
    p5 := by simpa [hd, he] using h.p5
    p8 := by simpa [hd, he] using h.p8
    p9 := by simpa [hd, he] using h.p9
    p10 := by simpa [hd, he] using h.p10
    p0 := fun _ h2 => absurd (by simp [hd, (h.o2 d7).1]) h2
    p6 := fun _ h2 => absurd (by simp [hd, d7]) h2
    p4 := fun _ h2 => absurd (by simp [hd, d7]) h2
    p7 := fun _ h2 => absurd (by simp [hd]) h2
    p11 := fun _ _ => by rw [he, if_pos rfl]; exact hv
    p12 := fun h1 => absurd (by simpa [hd] using h1) n12
  }

set_option maxHeartbeats 1000000 in
theorem ins_12 {base : Array Value} {W0 : World} {lv lo hi : Value} {at_ n : Nat} {pv : Value} {t : Bool} {k : Int} {s : ByteArray} {xs ys : List Value} {L : Array Bool} {a : Act} {w w' : World} {v : Value} (h : Ins base W0 lv lo hi at_ n pv t k s xs ys L a w) (hL : L.size = 13) (hb : base.size = 135)
    (hnd : ¬ done L 12) (d11 : done L 11) (d1 : done L 1) (d8 : done L 8) (hv : v = a.eval (.tmp 53)) :
    Ins base W0 lv lo hi at_ n pv t k s xs ys (L.setIfInBounds 12 true) (a.put (some 3) v) w := by
  have hd := fun j => done_set (L := L) (i := 12) (by omega) j
  have hs : 3 < a.tmps.size := by rw [h.sz]; omega
  have he := fun j => eval_put a 3 v j hs
  exact {
    df := by simpa [Act.put] using h.df
    sz := by rw [size_put]; exact h.sz
    kp := fun j h1 h2 => (get_put a 3 v j h1).trans (h.kp j h1 h2)
    bel := h.bel
    q3 := fun h2 => absurd (by simp [hd]) h2
    q5 := by rw [he]; exact h.q5
    q6 := by rw [he]; exact h.q6
    o1 := fun h1 => by have h2 := h.o1 (by simpa [hd] using h1); simp [hd, h2]
    o2 := fun h1 => by have h2 := h.o2 (by simpa [hd] using h1); simp [hd, h2]
    o3 := fun h1 => by have h2 := h.o3 (by simpa [hd] using h1); simp [hd, h2]
    o4 := fun _ => by simp [hd, d11, d1, d8]
    p1 := by simpa [hd, he] using h.p1
    p2 := by simpa [hd, he] using h.p2
    p3 := by simpa [hd, he] using h.p3
    p5 := by simpa [hd, he] using h.p5
    p8 := by simpa [hd, he] using h.p8
    p9 := by simpa [hd, he] using h.p9
    p10 := by simpa [hd, he] using h.p10
    p0 := by simpa [hd, he] using h.p0
    p6 := by simpa [hd, he] using h.p6
    p4 := by simpa [hd, he] using h.p4
    p7 := by simpa [hd, he] using h.p7
    p11 := fun _ h2 => absurd (by simp [hd]) h2
    p12 := fun _ => by rw [he, if_pos rfl, hv]; exact h.p11 d11 hnd
  }

theorem eval_get {a : Act} {base : Array Value} {j : Nat} {x : Value} (hk : a.tmps[j]? = base[j]?) (h : base[j]? = some x) : a.eval (.tmp j) = x := by
  rw [h] at hk
  unfold Act.eval
  have hlt : j < a.tmps.size := (Array.getElem?_eq_some_iff.1 hk).1
  simp only [Array.getD, hlt, dif_pos]
  have h2 := (Array.getElem?_eq_some_iff.1 hk).2
  simpa using h2
set_option maxRecDepth 100000 in
set_option maxHeartbeats 4000000 in
theorem sorts9_any (Q : Exit → Act → World → Prop) (base : Array Value) (W0 : World) (lv lo hi : Value) (at_ n : Nat) (pv : Value) (t : Bool) (k : Int) (s : ByteArray) (xs ys : List Value)
    (hb : base.size = 135) (b3 : base[3]? = some lv) (b5 : base[5]? = some pv) (b6 : base[6]? = some (.int .i64 at_))
    (hld : ∀ w, Below W0.heap.size W0 w → (Instr.loadAt 24 pv).run Tryd.prog w = .ok (vl t k s) w)
    (hlo : ∀ w, (Instr.sliceAt 33 lv none (some (.int .i64 at_)) none).run Tryd.prog w = .ok lo w)
    (hhi : ∀ w, (Instr.sliceAt 33 lv (some (.int .i64 at_)) none none).run Tryd.prog w = .ok hi w)
    (slo : Src W0 lo at_ xs) (shi : Src W0 hi n ys) (oxs : ∀ u ∈ xs, u.oneCell' = true) (oys : ∀ u ∈ ys, u.oneCell' = true) (ha : at_ ≤ 100) (hn : n ≤ 100)
    (hQ : ∀ a w', a.defers = [] → a.tmps.size = 135 → (∀ j, j ≠ 3 → (j < 42 ∨ 53 < j) → a.tmps[j]? = base[j]?) → Below W0.heap.size W0 w' →
      w'.ownsRow W0.heap.size 24 3 (a.eval (.tmp 3)) (at_ + 1 + n) (xs ++ [.bool t, .int .i64 k, .string s] ++ ys) → Q .normal a w') :
    Code.wp Tryd.prog sorts9 Q ⟨base, []⟩ W0 := by
  conv => arg 2; whnf
  refine region_inv (fun L a w => Ins base W0 lv lo hi at_ n pv t k s xs ys L a w) (by kernel_rfl) (by kernel_rfl) ?_ ?_ ?_
  · have nd := fun j => none_done 13 j
    exact {
      df := rfl
      sz := rfl
      kp := fun _ _ _ => rfl
      bel := (Below.refl _ _).drew
      q3 := fun _ => eval_get rfl b3
      q5 := eval_get rfl b5
      q6 := eval_get rfl b6
      o1 := fun h => absurd h (nd _)
      o2 := fun h => absurd h (nd _)
      o3 := fun h => absurd h (nd _)
      o4 := fun h => absurd h (nd _)
      p1 := fun h => absurd h (nd _)
      p2 := fun h => absurd h (nd _)
      p3 := fun h => absurd h (nd _)
      p5 := fun h => absurd h (nd _)
      p8 := fun h => absurd h (nd _)
      p9 := fun h => absurd h (nd _)
      p10 := fun h => absurd h (nd _)
      p0 := fun h => absurd h (nd _)
      p6 := fun h => absurd h (nd _)
      p4 := fun h => absurd h (nd _)
      p7 := fun h => absurd h (nd _)
      p11 := fun h => absurd h (nd _)
      p12 := fun h => absurd h (nd _) }
  · intro L a w i o hL h ho hnd hdep
    have hL2 : L.size = 13 := hL
    have hlt : i < 13 := (List.getElem?_eq_some_iff.1 ho).1
    match i, hlt, ho, hnd, hdep with
    | 0, _, ho, hnd, hdep =>
      obtain rfl := Option.some.inj ho
      exact op_value ho rfl (ex_build _ _ _ _ _ rfl (ps := #[]) (by simp) (run_slice0 w)) (ins_0 (w' := w) h hL2 hb hnd rfl)
    | 1, _, ho, hnd, hdep =>
      obtain rfl := Option.some.inj ho
      exact op_value ho rfl (v := a.eval (.tmp 3)) (w' := w) (ex_move _ _ (.tmp 3) rfl w) (ins_1 (w' := w) h hL2 hb hnd (h.q3 (fun x => hnd (h.o4 x).2.1)))
    | 2, _, ho, hnd, hdep =>
      obtain rfl := Option.some.inj ho
      exact op_value ho rfl (v := a.eval (.tmp 6)) (w' := w) (ex_move _ _ (.tmp 6) rfl w) (ins_2 (w' := w) h hL2 hb hnd h.q6)
    | 3, _, ho, hnd, hdep =>
      obtain rfl := Option.some.inj ho
      have e1 := h.p1 (hdep ⟨1, .data⟩ (by simp) rfl)
      have e2 := h.p2 (hdep ⟨2, .data⟩ (by simp) rfl)
      exact op_value ho rfl (v := lo) (w' := w) (ex_slice _ _ 33 (.tmp 43) none (some (.tmp 44)) none rfl (by simp only [Option.map_some, Option.map_none, e1, e2]; exact hlo w)) (ins_3 (w' := w) h hL2 hb hnd rfl)
    | 4, _, ho, hnd, hdep =>
      obtain rfl := Option.some.inj ho
      have d0 := hdep ⟨0, .data⟩ (by simp) rfl
      have d3 := hdep ⟨3, .data⟩ (by simp) rfl
      have e3 := h.p3 d3
      obtain ⟨v', w', r1, r2, r3⟩ := app_run (W := w) W0.heap.size (h.p0 d0 hnd) (slo.on h.bel) oxs (by omega) (by omega) h.bel.size 33
      exact op_value ho rfl (v := v') (w' := w') (ex_append _ _ (.tmp 42) (.tmp 45) 33 rfl rfl e3 r1) (ins_4 h hL2 hb hnd d0 d3 (by simpa using r2) r3)
    | 5, _, ho, hnd, hdep =>
      obtain rfl := Option.some.inj ho
      exact op_value ho rfl (v := vl t k s) (w' := w) (ex_load _ _ 24 (.tmp 5) rfl (by rw [h.q5]; exact hld w h.bel)) (ins_5 (w' := w) h hL2 hb hnd rfl)
    | 6, _, ho, hnd, hdep =>
      obtain rfl := Option.some.inj ho
      have e5 := h.p5 (hdep ⟨5, .data⟩ (by simp) rfl)
      exact op_value ho rfl (ex_build _ _ _ _ _ rfl (by simp only [List.map_toArray, List.map_cons, List.map_nil, e5]) (run_slice1 t k s w)) (ins_6 (w' := w) h hL2 hb hnd rfl)
    | 7, _, ho, hnd, hdep =>
      obtain rfl := Option.some.inj ho
      have d4 := hdep ⟨4, .data⟩ (by simp) rfl
      have d6 := hdep ⟨6, .data⟩ (by simp) rfl
      obtain ⟨g, g1, g2, g3, _⟩ := h.p6 d6 hnd
      have hsrc : Src w (a.eval (.tmp 48)) 1 [.bool t, .int .i64 k, .string s] := Or.inr ⟨⟨g, 0, none⟩, 1, g2, rfl, lt_of_heap g3, fun j u hj => by
        have hc : w.cell? ⟨g, j, none⟩ = (#[.bool t, .int .i64 k, .string s] : Array Value)[j]? := by simp [World.cell?, g3]
        rw [show (⟨g, 0, none⟩ : Addr).add j = ⟨g, j, none⟩ by unfold Addr.add; split <;> simp_all, hc]
        simpa using hj⟩
      obtain ⟨v', w', r1, r2, r3⟩ := app_run (W := w) W0.heap.size (h.p4 d4 hnd) hsrc (flat_one [(t, k, s)]) (by omega) (by omega) h.bel.size 33
      exact op_value ho rfl (v := v') (w' := w') (ex_append _ _ (.tmp 46) (.tmp 48) 33 rfl rfl rfl r1) (ins_7 h hL2 hb hnd d4 d6 r2 r3)
    | 8, _, ho, hnd, hdep =>
      obtain rfl := Option.some.inj ho
      exact op_value ho rfl (v := a.eval (.tmp 3)) (w' := w) (ex_move _ _ (.tmp 3) rfl w) (ins_8 (w' := w) h hL2 hb hnd (h.q3 (fun x => hnd (h.o4 x).2.2)))
    | 9, _, ho, hnd, hdep =>
      obtain rfl := Option.some.inj ho
      exact op_value ho rfl (v := a.eval (.tmp 6)) (w' := w) (ex_move _ _ (.tmp 6) rfl w) (ins_9 (w' := w) h hL2 hb hnd h.q6)
    | 10, _, ho, hnd, hdep =>
      obtain rfl := Option.some.inj ho
      have e1 := h.p8 (hdep ⟨8, .data⟩ (by simp) rfl)
      have e2 := h.p9 (hdep ⟨9, .data⟩ (by simp) rfl)
      exact op_value ho rfl (v := hi) (w' := w) (ex_slice _ _ 33 (.tmp 50) (some (.tmp 51)) none none rfl (by simp only [Option.map_some, Option.map_none, e1, e2]; exact hhi w)) (ins_10 (w' := w) h hL2 hb hnd rfl)
    | 11, _, ho, hnd, hdep =>
      obtain rfl := Option.some.inj ho
      have d7 := hdep ⟨7, .data⟩ (by simp) rfl
      have d10 := hdep ⟨10, .data⟩ (by simp) rfl
      have e3 := h.p10 d10
      obtain ⟨v', w', r1, r2, r3⟩ := app_run (W := w) W0.heap.size (h.p7 d7 hnd) (shi.on h.bel) oys (by omega) (by omega) h.bel.size 33
      exact op_value ho rfl (v := v') (w' := w') (ex_append _ _ (.tmp 49) (.tmp 52) 33 rfl rfl e3 r1) (ins_11 h hL2 hb hnd d7 d10 r2 r3)
    | 12, _, ho, hnd, hdep =>
      obtain rfl := Option.some.inj ho
      have d11 := hdep ⟨11, .data⟩ (by simp) rfl
      have d1 := hdep ⟨1, .phase⟩ (by simp) rfl
      have d8 := hdep ⟨8, .phase⟩ (by simp) rfl
      exact op_value ho rfl (v := a.eval (.tmp 53)) (w' := w) (ex_assign _ _ (.tmp 53) rfl w) (ins_12 (w' := w) h hL2 hb hnd d11 d1 d8 rfl)
  · intro L a w h hd
    exact hQ a w h.df (h.sz.trans hb) h.kp h.bel (h.p12 (hd 12 (by decide)))
end Go.Proofs.YtdcddhckhbjkeaaDoor.Va
