/-
  copyAdvert of package adverts: the same in new memory. Condition: at most 900 constraints.
  A broker's rows lie in no block that holds a broker: what a store into such a block leaves. No program's function in it.
-/
import Derived.Test.YtonoadjmglkhaaaGreatU017
import Derived.Test.YtonoadjmglkhaaaGreatU018
namespace Go.Proofs.YtonoadjmglkhaaaGreat.Av
open Go.RowKit Go.Sort Go.Proofs.YtonoadjmglkhaaaGreat Go.Proofs.YtonoadjmglkhaaaGreat.Rw Go.Proofs.YtonoadjmglkhaaaGreat.Nm Go.Proofs.YtonoadjmglkhaaaGreat.Pr Go.Proofs.YtonoadjmglkhaaaGreat.Bk

/-- Four stores of an advertisement. -/
abbrev setD (W : World) (b : Nat) (a0 a1 a2 a3 : Value) : World := (((W.setCell ⟨b, 0, none⟩ a0).setCell ⟨b, 1, none⟩ a1).setCell ⟨b, 2, none⟩ a2).setCell ⟨b, 3, none⟩ a3
theorem setD_box {W : World} {b : Nat} {t : TypeId} {z0 z1 z2 z3 : Value} (h : Box W b #[z0, z1, z2, z3] t) (a0 a1 a2 a3 : Value) : Box (setD W b a0 a1 a2 a3) b #[a0, a1, a2, a3] t := by
  have h2 := box_set (k := 3) (box_set (k := 2) (box_set (k := 1) (box_set (k := 0) h a0) a1) a2) a3
  simpa using h2
theorem setD_below {B : Nat} {W0 W : World} {b : Nat} (h : Below B W0 W) (hb : B ≤ b) (a0 a1 a2 a3 : Value) : Below B W0 (setD W b a0 a1 a2 a3) :=
  (((h.setCell (p := ⟨b, 0, none⟩) hb a0).setCell (p := ⟨b, 1, none⟩) hb a1).setCell (p := ⟨b, 2, none⟩) hb a2).setCell (p := ⟨b, 3, none⟩) hb a3
theorem setD_own {α : Type} {E : Ek α} {W : World} {B : Nat} {v : Value} {l : List α} (h : Own E W B v l) (b : Nat) (hb : b < B) (a0 a1 a2 a3 : Value) : Own E (setD W b a0 a1 a2 a3) B v l :=
  own_cell (own_cell (own_cell (own_cell h b 0 a0 hb) b 1 a1 hb) b 2 a2 hb) b 3 a3 hb
theorem setD_other {W : World} {b c : Nat} {cs : Array Value} {t : TypeId} (h : Box W c cs t) (hne : c ≠ b) (a0 a1 a2 a3 : Value) : Box (setD W b a0 a1 a2 a3) c cs t := by
  have h1 : Box _ _ _ _ := (RowKit.Below.heap_setCell W ⟨b, 0, none⟩ a0 _ hne).trans h
  have h2 : Box _ _ _ _ := (RowKit.Below.heap_setCell _ ⟨b, 1, none⟩ a1 _ hne).trans h1
  have h3 : Box _ _ _ _ := (RowKit.Below.heap_setCell _ ⟨b, 2, none⟩ a2 _ hne).trans h2
  exact (RowKit.Below.heap_setCell _ ⟨b, 3, none⟩ a3 _ hne).trans h3
set_option maxRecDepth 100000 in
set_option maxHeartbeats 8000000 in
theorem cpAd_any (x : XAd) (p : List C5) (w : World) (hp : RowC w (slv x.2.2.1) p) (hl : p.length ≤ 900) :
    Calls Tryz.prog 31 #[valD x] w fun e w' => (∃ v' : Sl, e = .returned (valD (x.1, x.2.1, v', x.2.2.2)) ∧ OwnC w' w.heap.size (slv v') p) ∧ Below w.heap.size w w' := by
  obtain ⟨a, b, ⟨s1, s2, s3⟩, q⟩ := x
  obtain ⟨h0, X, Y⟩ := two_new w #[.int .i64 a, .int .i64 b, .slice s1 s2 s3, .int .i64 q] #[.int .i64 0, .int .i64 0, .slice none 0 0, .int .i64 0] 42 42
  have C := Lib.hid (cloneC_any (s1, s2, s3) p _ (hp.on h0) hl)
  have B := Lib.hid h0
  have x2 := X.cell 2
  simp only [List.getElem?_toArray, List.getElem?_cons_zero, List.getElem?_cons_succ] at x2
  have X := Lib.hid X
  have Y := Lib.hid Y
  clear h0 hp hl
  go_enter Tryz.func31, Tryz.ntmps31
  go_wp2_with fail
  generalize (w.alloc (.cells #[.int .i64 a, .int .i64 b, .slice s1 s2 s3, .int .i64 q] 42)).alloc (.cells #[.int .i64 0, .int .i64 0, .slice none 0 0, .int .i64 0] 42) = W at *
  refine C.out.mono ?_
  rintro e w1 ⟨⟨⟨u1, u2, u3⟩, rfl, ho⟩, hb⟩
  have X1 := X.out.on hb
  have Y1 := Y.out.on hb
  have hs : w.heap.size < W.heap.size := X.out.lt
  have O1 := Lib.hid (own_cell ho w.heap.size 2 (.slice u1 u2 u3) hs)
  have XB := Lib.hid (show Box _ _ #[.int .i64 a, .int .i64 b, .slice u1 u2 u3, .int .i64 q] _ from by simpa using box_set (k := 2) X1 (.slice u1 u2 u3))
  have YB := Lib.hid (show Box _ _ _ _ from (RowKit.Below.heap_setCell w1 ⟨w.heap.size, 2, none⟩ (.slice u1 u2 u3) _ (show w.heap.size + 1 ≠ w.heap.size by omega)).trans Y1)
  have B1 := Lib.hid ((B.out.trans (hb.mono B.out.size)).setCell (p := ⟨w.heap.size, 2, none⟩) (Nat.le_refl _) (.slice u1 u2 u3))
  have y2 := X1.cell 2
  have f2 := X1.fr 2
  have z2 := X1.lt
  simp only [List.getElem?_toArray, List.getElem?_cons_zero, List.getElem?_cons_succ] at y2
  clear X1 Y1 ho hb x2 C
  go_upto_region 2 with fail
  clear y2 f2 z2
  generalize w1.setCell ⟨w.heap.size, 2, none⟩ (.slice u1 u2 u3) = w2 at *
  have x0 := XB.out.cell 0
  have x1 := XB.out.cell 1
  have x2 := XB.out.cell 2
  have x3 := XB.out.cell 3
  have r0 := YB.out.cell 0
  have r1 := YB.out.cell 1
  have r2 := YB.out.cell 2
  have r3 := YB.out.cell 3
  have t0 := YB.out.fr 0
  have t1 := YB.out.fr 1
  have t2 := YB.out.fr 2
  have t3 := YB.out.fr 3
  simp only [List.getElem?_toArray, List.getElem?_cons_zero, List.getElem?_cons_succ] at x0 x1 x2 x3 r0 r1 r2 r3
  have zz := YB.out.lt
  have hs2 : w.heap.size + 1 < W.heap.size := Y.out.lt
  have FB := Lib.hid (setD_box YB.out (.int .i64 a) (.int .i64 b) (.slice u1 u2 u3) (.int .i64 q))
  have BL := Lib.hid (setD_below (b := w.heap.size + 1) B1.out (by omega) (.int .i64 a) (.int .i64 b) (.slice u1 u2 u3) (.int .i64 q))
  have FO := Lib.hid (setD_own O1.out (w.heap.size + 1) hs2 (.int .i64 a) (.int .i64 b) (.slice u1 u2 u3) (.int .i64 q))
  have HS := Lib.hid hs
  clear hs hs2
  go_wp2_with fail
  have v0 := FB.out.cell 0
  have v1 := FB.out.cell 1
  have v2 := FB.out.cell 2
  have v3 := FB.out.cell 3
  simp at v0 v1 v2 v3
  refine bodyPost_ret (v := .agg #[.int .i64 a, .int .i64 b, .slice u1 u2 u3, .int .i64 q]) (by simp [results, Tryz.results31, go_sem, v0, v1, v2, v3]) rfl ?_
  exact ⟨⟨(u1, u2, u3), rfl, own_fewer FO.out (Nat.le_of_lt HS.out)⟩, BL.out⟩
end Go.Proofs.YtonoadjmglkhaaaGreat.Av

namespace Go.Proofs.YtonoadjmglkhaaaGreat.Bk
open Go.RowKit Go.Proofs.YtonoadjmglkhaaaGreat Go.Proofs.YtonoadjmglkhaaaGreat.Rw Go.Proofs.YtonoadjmglkhaaaGreat.Nm Go.Proofs.YtonoadjmglkhaaaGreat.Pr

theorem cell_box {W : World} {b : Nat} {cs : Array Value} {t : TypeId} (hb : Box W b cs t) {a : Addr} {v : Value} (h : W.cell? a = some v) (e : a.block = b) : cs[a.off]? = some v := by
  unfold World.cell? at h
  unfold Box at hb
  rw [e, hb] at h
  have h2 : a.spot = none ∧ cs[a.off]? = some v := by simpa using h
  exact h2.2
theorem cell_keep {W W' : World} {b : Nat} (hk : ∀ j, j < W.heap.size → j ≠ b → W'.heap[j]? = W.heap[j]?) {a : Addr} {v : Value} (h : W.cell? a = some v) (e : a.block ≠ b) : W'.cell? a = some v := by
  have hlt := World.block_lt_of_cell? W _ h
  unfold World.cell? at h ⊢
  rw [hk _ hlt e]
  exact h
theorem add_blk (a : Addr) (j : Nat) : (a.add j).block = a.block := by unfold Addr.add; split <;> rfl
/-- A row of which no element can begin in such a block. -/
theorem row_keep {α : Type} {E : Ek α} (_K : E.Ok) {W W' : World} {b : Nat} {v : Value} {l : List α} (h : Row E W v l) (hk : ∀ j, j < W.heap.size → j ≠ b → W'.heap[j]? = W.heap[j]?) (hno : ∀ (a : Addr) (c : α), (∀ j u, (E.cells c)[j]? = some u → W.cell? (a.add j) = some u) → a.block ≠ b) : Row E W' v l := by
  rcases h with h | ⟨a, cap, h1, h2, h3, h4⟩
  · exact Or.inl h
  · refine Or.inr ⟨a, cap, h1, h2, h3, fun j u hj => ?_⟩
    cases l with
    | nil => simp [flat] at hj
    | cons c r =>
      have hne : a.block ≠ b := hno a c fun j u hj => h4 j u (by
        rw [flat, List.getElem?_append_left (by exact (List.getElem?_eq_some_iff.1 hj).1)]
        exact hj)
      exact cell_keep hk (h4 j u hj) (by rw [add_blk]; exact hne)
/-- Elements that begin with two numbers lie in no block in which no two numbers stand side by side. -/
theorem two_ints {α : Type} {E : Ek α} {W : World} {b : Nat} {cs : Array Value} {t : TypeId} (hb : Box W b cs t) (hE : ∀ c : α, ∃ i j : Int, (E.cells c)[0]? = some (.int .i64 i) ∧ (E.cells c)[1]? = some (.int .i64 j)) (hcs : ∀ (k : Nat) (i j : Int), cs[k]? = some (.int .i64 i) → cs[k + 1]? = some (.int .i64 j) → False) (a : Addr) (c : α) (h : ∀ j u, (E.cells c)[j]? = some u → W.cell? (a.add j) = some u) : a.block ≠ b := fun e => by
  obtain ⟨i, j, h0, h1⟩ := hE c
  have c0 := cell_box hb (h 0 _ h0) (by rw [add_blk]; exact e)
  have c1 := cell_box hb (h 1 _ h1) (by rw [add_blk]; exact e)
  have o0 : (a.add 0).off = a.off := by rw [Addr.add_zero']
  have o1 : (a.add 1).off = a.off + 1 := by rw [add_pos _ _ (by decide)]
  rw [o0] at c0
  rw [o1] at c1
  exact hcs a.off i j c0 c1
theorem no_text {W : World} {b : Nat} {cs : Array Value} {t : TypeId} (hb : Box W b cs t) (hcs : ∀ (k : Nat) (s : ByteArray), cs[k]? ≠ some (.string s)) (a : Addr) (c : C5) (h : ∀ j u, (EC.cells c)[j]? = some u → W.cell? (a.add j) = some u) : a.block ≠ b := fun e => by
  have c0 := cell_box hb (h 0 _ rfl) (by rw [add_blk]; exact e)
  exact hcs _ _ c0
theorem br_ints (me : Int) (s1 s2 s3 s4 s5 : Sl) : ∀ (k : Nat) (i j : Int), (brcells me s1 s2 s3 s4 s5)[k]? = some (.int .i64 i) → (brcells me s1 s2 s3 s4 s5)[k + 1]? = some (.int .i64 j) → False := by
  intro k i j h1 h2
  match k with
  | 0 => simp at h2
  | 1 => simp at h1
  | 2 => simp at h1
  | 3 => simp at h1
  | 4 => simp at h1
  | 5 => simp at h1
  | k + 6 => simp at h1
theorem br_text (me : Int) (s1 s2 s3 s4 s5 : Sl) : ∀ (k : Nat) (s : ByteArray), (brcells me s1 s2 s3 s4 s5)[k]? ≠ some (.string s) := by
  intro k s h
  match k with
  | 0 => simp at h
  | 1 => simp at h
  | 2 => simp at h
  | 3 => simp at h
  | 4 => simp at h
  | 5 => simp at h
  | k + 6 => simp at h
/-- A store into a broker's variable leaves a broker's rows, if it leaves its neighbours. -/
theorem brin_keep {W W' : World} {k : Nat} {me : Int} {s1 s2 s3 s4 s5 : Sl} {b : Br} {nv av sv ev ov : Sl} (h : BrIn W b nv av sv ev ov) (hb : Box W k (brcells me s1 s2 s3 s4 s5) 29) (hk : ∀ j, j < W.heap.size → j ≠ k → W'.heap[j]? = W.heap[j]?) (hn : RowI W' (slv nv) b.near) : BrIn W' b nv av sv ev ov where
  near := hn
  adv := by
    obtain ⟨l, h1, h2⟩ := h.adv
    exact ⟨l, row_keep okD h1 hk (two_ints hb (fun c => ⟨_, _, rfl, rfl⟩) (br_ints me s1 s2 s3 s4 s5)), h2.mono fun x a hx => ⟨hx.1, hx.2.1, row_keep okC hx.2.2 hk (no_text hb (br_text me s1 s2 s3 s4 s5))⟩⟩
  seen := row_keep okJ h.seen hk (two_ints hb (fun c => ⟨_, _, rfl, rfl⟩) (br_ints me s1 s2 s3 s4 s5))
  ent := by
    obtain ⟨l, h1, h2⟩ := h.ent
    exact ⟨l, row_keep okN h1 hk (two_ints hb (fun c => ⟨_, _, rfl, rfl⟩) (br_ints me s1 s2 s3 s4 s5)), h2.mono fun x a hx => ⟨hx.1, hx.2.1, hx.2.2.1, hx.2.2.2.1, row_keep okC hx.2.2.2.2 hk (no_text hb (br_text me s1 s2 s3 s4 s5))⟩⟩
  own := by
    obtain ⟨l, h1, h2⟩ := h.own
    exact ⟨l, row_keep okW h1 hk (two_ints hb (fun c => ⟨_, _, rfl, rfl⟩) (br_ints me s1 s2 s3 s4 s5)), h2.mono fun x a hx => ⟨hx.1, row_keep okC hx.2 hk (no_text hb (br_text me s1 s2 s3 s4 s5))⟩⟩
end Go.Proofs.YtonoadjmglkhaaaGreat.Bk
