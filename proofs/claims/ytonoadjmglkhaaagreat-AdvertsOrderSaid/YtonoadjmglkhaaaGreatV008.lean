/-
  Less, seen and Find of broadsideref9. Condition: rows no longer than a machine holds.
  Rows of one's own, while memory grows and one cell is written. No program's function in it.
  The two loops of Learn that look for a place. Condition: at most a million elements.
-/
import Derived.Test.YtonoadjmglkhaaaGreatV007
import Derived.Lib.Hide
import Derived.Test.YtonoadjmglkhaaaGreatV005
import Derived.Lib.QuietBelow
import Derived.BigQuiet
namespace Go.Proofs.YtonoadjmglkhaaaGreat.Bk
open Go.RowKit Go.Proofs.YtonoadjmglkhaaaGreat Go.Proofs.YtonoadjmglkhaaaGreat.Rw Go.Proofs.YtonoadjmglkhaaaGreat.Nm Go.Proofs.YtonoadjmglkhaaaGreat.Pr

abbrev idv (x : Id) : Value := .agg #[.int .i64 x.1, .int .i64 x.2]
theorem stoodId : Tryz.prog.stoodInHeld 37 = false := by kernel_rfl
theorem eqId (a b c d : Int) (r : Bool) (h : (a == c && b == d) = r) (w : World) : (binOp .eql 37 (.agg #[.int .i64 a, .int .i64 b]) (.agg #[.int .i64 c, .int .i64 d])).run Tryz.prog w = .ok (.bool r) w := by
  have st := stoodId
  subst h
  by_cases h1 : a = c <;> by_cases h2 : b = d <;> simp [go_sem, Tryz.underlying37, Tryz.underlying3, st, h1, h2]
theorem newB (w : World) (o : Obj) : Below w.heap.size w (w.alloc o) := (Below.refl _ _).alloc (Nat.le_refl _) _
theorem two_new (w : World) (c d : Array Value) (s t : TypeId) : Below w.heap.size w ((w.alloc (.cells c s)).alloc (.cells d t)) ∧ Box ((w.alloc (.cells c s)).alloc (.cells d t)) w.heap.size c s ∧ Box ((w.alloc (.cells c s)).alloc (.cells d t)) (w.heap.size + 1) d t := by
  refine ⟨((Below.refl _ _).alloc (Nat.le_refl _) _).alloc (by simp) _, (box_new w c s).more _, ?_⟩
  have h := box_new (w.alloc (.cells c s)) d t
  simpa using h
set_option maxRecDepth 100000 in
set_option maxHeartbeats 4000000 in
theorem less_any (x y : Id) (w : World) : Calls Tryz.prog 36 #[idv x, idv y] w fun e w' => e = .returned (.bool (lessI x y)) ∧ Below w.heap.size w w' := by
  obtain ⟨a, b⟩ := x
  obtain ⟨c, d⟩ := y
  obtain ⟨h0, h1, h2⟩ := two_new w #[.int .i64 a, .int .i64 b] #[.int .i64 c, .int .i64 d] 37 37
  have B := Lib.hid h0
  have a0 := h1.cell 0
  have a1 := h1.cell 1
  have b0 := h2.cell 0
  have b1 := h2.cell 1
  simp only [List.getElem?_toArray, List.getElem?_cons_zero, List.getElem?_cons_succ] at a0 a1 b0 b1
  have R := Lib.hid (show lessI (a, b) (c, d) = (decide (a < c) || (a == c && decide (b < d))) from rfl)
  generalize lessI (a, b) (c, d) = r at *
  obtain ⟨r1, e1⟩ : ∃ r, decide (a < c) = r := ⟨_, rfl⟩
  obtain ⟨r2, e2⟩ : ∃ r, (a == c) = r := ⟨_, rfl⟩
  obtain ⟨r3, e3⟩ : ∃ r, decide (b < d) = r := ⟨_, rfl⟩
  rw [e1, e2, e3] at R
  clear h0 h1 h2
  go_enter Tryz.func36, Tryz.ntmps36
  cases r1 <;> cases r2
  all_goals
    go_wp2
    go_ret
    exact ⟨by rw [R.out]; simp, B.out⟩
set_option maxRecDepth 100000 in
set_option maxHeartbeats 8000000 in
theorem rseen_any (me : Int) (nv av ev ov : Value) (sv : Sl) (l : List Id) (x : Id) (w : World) (hs : RowJ w (slv sv) l) :
    Calls Tryz.prog 35 #[.agg #[.int .i64 me, nv, av, slv sv, ev, ov], idv x] w fun e w' => e = .returned (.bool (decide (x ∈ l))) ∧ Below w.heap.size w w' := by
  obtain ⟨c, d⟩ := x
  obtain ⟨so, sn, sc⟩ := sv
  obtain ⟨ao, ac, hv⟩ := hs.len
  have hv : Value.slice so sn sc = .slice ao l.length ac := hv
  obtain ⟨rfl, rfl, rfl⟩ : so = ao ∧ sn = l.length ∧ sc = ac := by simpa using hv
  obtain ⟨h0, h1, h2⟩ := two_new w #[.int .i64 me, nv, av, .slice so l.length sc, ev, ov] #[.int .i64 c, .int .i64 d] 29 37
  have B := Lib.hid h0
  have HS := Lib.hid (hs.on h0)
  have X2 := Lib.hid h1
  have X3 := Lib.hid h2
  have lm := hs.most
  unfold maxLen at lm
  obtain ⟨n, hn⟩ : ∃ n, n = l.length := ⟨_, rfl⟩
  have q3 := h1.cell 3
  simp only [List.getElem?_toArray, List.getElem?_cons_zero, List.getElem?_cons_succ] at q3
  rw [← hn] at HS X2 lm q3 B X3 ⊢
  have HN := Lib.hid hn.symm
  clear h0 h1 h2 hs hv hn
  go_enter Tryz.func35, Tryz.ntmps35
  go_upto_region 1 with fail
  generalize (w.alloc (.cells #[.int .i64 me, nv, av, .slice so n sc, ev, ov] 29)).alloc (.cells #[.int .i64 c, .int .i64 d] 37) = W at *
  go_wp2
  go_loopw [10] (fun i wr => ∃ k : Nat, k ≤ n ∧ i = .int .i64 k ∧ Below W.heap.size W wr ∧ ∀ (j : Nat) (y : Id), j < k → l[j]? = some y → y ≠ (c, d)) (fun i _ => n - (intOf i).toNat)
  case atStart => exact ⟨0, Nat.zero_le _, rfl, Below.refl _ _, fun j y h => by omega⟩
  case round =>
    obtain ⟨k, hk, rfl, hbe, hall⟩ := hrel
    have BE := Lib.hid hbe
    have AL := Lib.hid hall
    clear hbe hall
    by_cases hlt : k < n
    · obtain ⟨y, hy⟩ : ∃ y, l[k]? = some y := ⟨_, List.getElem?_eq_getElem (by rw [HN.out]; exact hlt)⟩
      obtain ⟨p, ix, px⟩ := elJ HS.out rfl HN.out hy
      obtain ⟨p0, p1⟩ := px wr BE.out
      obtain ⟨y1, y2⟩ := y
      simp only at p0 p1
      have NB := Lib.hid (newB wr (.cells #[.int .i64 y1, .int .i64 y2] 37))
      have x0 := ((X3.out.on BE.out).on NB.out).cell 0
      have x1 := ((X3.out.on BE.out).on NB.out).cell 1
      simp only [List.getElem?_toArray, List.getElem?_cons_zero, List.getElem?_cons_succ] at x0 x1
      have hw3 : IntKind.i64.wrap ((k : Int) + 1) = (k : Int) + 1 := IntWalk.i64_in _ (by omega)
      obtain ⟨r, hr⟩ : ∃ r, (y1 == c && y2 == d) = r := ⟨_, rfl⟩
      have he := eqId y1 y2 c d r hr
      have HY := Lib.hid hy
      have HR := Lib.hid hr
      clear px hy hr
      cases r
      · go_wp2
        go_roundw
        case rel => exact ⟨k + 1, by omega, by go_num, BE.out.trans (NB.out.mono BE.out.size), fun j y' hj h1 => by
          rcases Nat.lt_or_ge j k with h3 | h3
          · exact AL.out j y' h3 h1
          · obtain rfl : j = k := by omega
            have e1 := HY.out
            rw [h1] at e1
            rw [Option.some.inj e1]
            intro e
            obtain ⟨rfl, rfl⟩ : y1 = c ∧ y2 = d := by simpa using e
            have := HR.out
            simp at this⟩
        case measure => simp [intOf]; omega
      · go_wp2
        go_ret
        have h8 := HR.out
        obtain ⟨rfl, rfl⟩ : y1 = c ∧ y2 = d := by simpa using h8
        exact ⟨by rw [decide_eq_true (List.mem_of_getElem? HY.out)]; rfl, B.out.trans ((BE.out.trans (NB.out.mono BE.out.size)).mono B.out.size)⟩
    · obtain rfl : k = n := by omega
      go_wp2
      go_ret
      have hd : decide ((c, d) ∈ l) = false := decide_eq_false fun hm => by
        obtain ⟨j, hj, hje⟩ := List.getElem_of_mem hm
        exact AL.out j (c, d) (by rw [← HN.out]; exact hj) (by rw [List.getElem?_eq_getElem hj, hje]) rfl
      exact ⟨by rw [hd]; rfl, B.out.trans (BE.out.mono B.out.size)⟩
theorem findI_bd : ∀ (l : List Id) (x : Id), -1 ≤ findI l x
  | [], _ => by simp [findI]
  | a :: l, x => by
    unfold findI
    have := findI_bd l x
    split
    · omega
    · split <;> omega
theorem find_none (l : List XAd) (x : Id) (h : ∀ (j : Nat) (y : XAd), l[j]? = some y → (y.1, y.2.1) ≠ x) : findI (l.map fun y => (y.1, y.2.1)) x = -1 := by
  induction l with
  | nil => rfl
  | cons a l ih =>
    rw [List.map_cons, findI, if_neg (h 0 a rfl), ih fun j y hj => h (j + 1) y (by simpa using hj), if_pos rfl]
theorem find_at (l : List XAd) (k : Nat) (x : Id) (y : XAd) (h : l[k]? = some y) (hx : (y.1, y.2.1) = x) (hall : ∀ (j : Nat) (z : XAd), j < k → l[j]? = some z → (z.1, z.2.1) ≠ x) : findI (l.map fun y => (y.1, y.2.1)) x = k := by
  induction l generalizing k with
  | nil => simp at h
  | cons a l ih =>
    cases k with
    | zero =>
      obtain rfl : a = y := by simpa using h
      rw [List.map_cons, findI, if_pos hx]
      rfl
    | succ k =>
      have h2 := ih k (by simpa using h) fun j z hj hz => hall (j + 1) z (by omega) (by simpa using hz)
      rw [List.map_cons, findI, if_neg (hall 0 a (by omega) rfl), h2, if_neg (by omega)]
      omega
set_option maxRecDepth 100000 in
set_option maxHeartbeats 8000000 in
theorem rfind_any (me : Int) (nv ev sv ov : Value) (av : Sl) (l : List XAd) (x : Id) (w : World) (hs : RowD w (slv av) l) :
    Calls Tryz.prog 15 #[.agg #[.int .i64 me, nv, slv av, sv, ev, ov], idv x] w fun e w' => e = .returned (.int .i64 (findI (l.map fun y => (y.1, y.2.1)) x)) ∧ Below w.heap.size w w' := by
  obtain ⟨c, d⟩ := x
  obtain ⟨so, sn, sc⟩ := av
  obtain ⟨ao, ac, hv⟩ := hs.len
  have hv : Value.slice so sn sc = .slice ao l.length ac := hv
  obtain ⟨rfl, rfl, rfl⟩ : so = ao ∧ sn = l.length ∧ sc = ac := by simpa using hv
  obtain ⟨h0, h1, h2⟩ := two_new w #[.int .i64 me, nv, .slice so l.length sc, sv, ev, ov] #[.int .i64 c, .int .i64 d] 29 37
  have B := Lib.hid h0
  have HS := Lib.hid (hs.on h0)
  have X2 := Lib.hid h1
  have X3 := Lib.hid h2
  have lm := hs.most
  unfold maxLen at lm
  obtain ⟨n, hn⟩ : ∃ n, n = l.length := ⟨_, rfl⟩
  have q3 := h1.cell 2
  simp only [List.getElem?_toArray, List.getElem?_cons_zero, List.getElem?_cons_succ] at q3
  rw [← hn] at HS X2 lm q3 B X3 ⊢
  have HN := Lib.hid hn.symm
  clear h0 h1 h2 hs hv hn
  go_enter Tryz.func15, Tryz.ntmps15
  go_upto_region 1 with fail
  generalize (w.alloc (.cells #[.int .i64 me, nv, .slice so n sc, sv, ev, ov] 29)).alloc (.cells #[.int .i64 c, .int .i64 d] 37) = W at *
  go_wp2
  go_loopw [10] (fun i wr => ∃ k : Nat, k ≤ n ∧ i = .int .i64 k ∧ Below W.heap.size W wr ∧ ∀ (j : Nat) (y : XAd), j < k → l[j]? = some y → (y.1, y.2.1) ≠ (c, d)) (fun i _ => n - (intOf i).toNat)
  case atStart => exact ⟨0, Nat.zero_le _, rfl, Below.refl _ _, fun j y h => by omega⟩
  case round =>
    obtain ⟨k, hk, rfl, hbe, hall⟩ := hrel
    have BE := Lib.hid hbe
    have AL := Lib.hid hall
    clear hbe hall
    by_cases hlt : k < n
    · obtain ⟨y, hy⟩ : ∃ y, l[k]? = some y := ⟨_, List.getElem?_eq_getElem (by rw [HN.out]; exact hlt)⟩
      obtain ⟨p, ix, px⟩ := elD HS.out rfl HN.out hy
      obtain ⟨p0, p1, p2, p3⟩ := px wr BE.out
      obtain ⟨y1, y2, ⟨yo, yn, yc⟩, y4⟩ := y
      simp only at p0 p1 p2 p3
      have NB := Lib.hid (newB wr (.cells #[.int .i64 y1, .int .i64 y2, .slice yo yn yc, .int .i64 y4] 42))
      have x0 := ((X3.out.on BE.out).on NB.out).cell 0
      have x1 := ((X3.out.on BE.out).on NB.out).cell 1
      simp only [List.getElem?_toArray, List.getElem?_cons_zero, List.getElem?_cons_succ] at x0 x1
      have hw3 : IntKind.i64.wrap ((k : Int) + 1) = (k : Int) + 1 := IntWalk.i64_in _ (by omega)
      obtain ⟨r, hr⟩ : ∃ r, (y1 == c && y2 == d) = r := ⟨_, rfl⟩
      have he := eqId y1 y2 c d r hr
      have HY := Lib.hid hy
      have HR := Lib.hid hr
      clear px hy hr
      cases r
      · go_wp2
        go_roundw
        case rel => exact ⟨k + 1, by omega, by go_num, BE.out.trans (NB.out.mono BE.out.size), fun j y' hj h1 => by
          rcases Nat.lt_or_ge j k with h3 | h3
          · exact AL.out j y' h3 h1
          · obtain rfl : j = k := by omega
            have e1 := HY.out
            rw [h1] at e1
            rw [Option.some.inj e1]
            intro e
            obtain ⟨rfl, rfl⟩ : y1 = c ∧ y2 = d := by simpa using e
            have := HR.out
            simp at this⟩
        case measure => simp [intOf]; omega
      · go_wp2
        go_ret
        have h8 := HR.out
        obtain ⟨rfl, rfl⟩ : y1 = c ∧ y2 = d := by simpa using h8
        exact ⟨by rw [find_at l k (y1, y2) _ HY.out rfl AL.out]; rfl, B.out.trans ((BE.out.trans (NB.out.mono BE.out.size)).mono B.out.size)⟩
    · obtain rfl : k = n := by omega
      go_wp2
      go_ret
      have hd : findI (l.map fun y => (y.1, y.2.1)) (c, d) = -1 := find_none l (c, d) fun j y hj => AL.out j y (by rw [← HN.out]; exact (List.getElem?_eq_some_iff.1 hj).1) hj
      exact ⟨by rw [hd]; rfl, B.out.trans (BE.out.mono B.out.size)⟩
end Go.Proofs.YtonoadjmglkhaaaGreat.Bk

namespace Go.Proofs.YtonoadjmglkhaaaGreat.Bk
open Go.RowKit Go.Proofs.YtonoadjmglkhaaaGreat Go.Proofs.YtonoadjmglkhaaaGreat.Rw

theorem own_fewer {α : Type} {E : Ek α} {W : World} {B C : Nat} {v : Value} {l : List α} (h : Own E W B v l) (hc : C ≤ B) : Own E W C v l := by
  refine ⟨h.1, ?_⟩
  rcases h.2 with h2 | ⟨g, cap, cur, h1, h2, h3⟩
  · exact Or.inl h2
  · exact Or.inr ⟨g, cap, cur, h1, Nat.le_trans hc h2, h3⟩
theorem own_on {α : Type} {E : Ek α} {W W' : World} {B : Nat} {v : Value} {l : List α} (h : Own E W B v l) (hb : Below W.heap.size W W') : Own E W' B v l :=
  h.kept (w' := W') (row := none) ⟨hb.os, hb.tape, hb.output, hb.size, fun k hk _ => hb.block k hk⟩ (by cases v.ownBlock <;> simp)
theorem own_cell {α : Type} {E : Ek α} {W : World} {B : Nat} {v : Value} {l : List α} (h : Own E W B v l) (b k : Nat) (x : Value) (hb : b < B) : Own E (W.setCell ⟨b, k, none⟩ x) B v l :=
  h.kept (w' := W.setCell ⟨b, k, none⟩ x) (row := some b) ⟨rfl, rfl, rfl, by simp [World.setCell], fun j _ hne => RowKit.Below.heap_setCell _ _ _ _ (fun e => hne (by rw [e]))⟩ (by
    cases hv : v.ownBlock with
    | none => exact Or.inl rfl
    | some j =>
      refine Or.inr fun e => ?_
      injection e with e
      have h1 := (h.lt j hv).1
      omega)
theorem add_one (x y : Operand) (t : TypeId) (w : World) (k : Nat) (hk : k ≤ 900) : (do eqGuard .add t x y (.int .i64 k) (.int .i64 1); binOp .add t (.int .i64 k) (.int .i64 1) : Sem Value).run Tryz.prog w = .ok (.int .i64 ((k : Int) + 1)) w := by
  have h : IntKind.i64.wrap ((k : Int) + 1) = (k : Int) + 1 := IntWalk.i64_in _ (by omega)
  simp [eqGuard, binOp, Op.intArith, go_sem, h]
theorem box_set {W : World} {rb k : Nat} {cs : Array Value} {t : TypeId} (h : Box W rb cs t) (x : Value) : Box (W.setCell ⟨rb, k, none⟩ x) rb (cs.setIfInBounds k x) t := heap_setCell_same W rb k cs t x h
end Go.Proofs.YtonoadjmglkhaaaGreat.Bk

namespace Go.Proofs.YtonoadjmglkhaaaGreat.Bk
open Go.RowKit Go.Sort Go.Proofs.YtonoadjmglkhaaaGreat Go.Proofs.YtonoadjmglkhaaaGreat.Rw Go.Proofs.YtonoadjmglkhaaaGreat.Nm Go.Proofs.YtonoadjmglkhaaaGreat.Pr

theorem place_is (l : List Id) (x : Id) (k : Nat) (hall : ∀ (j : Nat) (y : Id), j < k → l[j]? = some y → lessI y x = true) (hend : k = l.length ∨ ∃ y, l[k]? = some y ∧ lessI y x = false) : placeI l x = k := by
  unfold placeI
  induction l generalizing k with
  | nil =>
    rcases hend with h | ⟨y, h, _⟩
    · rw [h]; rfl
    · simp at h
  | cons a l ih =>
    cases k with
    | zero =>
      rcases hend with h | ⟨y, h, h2⟩
      · simp at h
      · obtain rfl : a = y := by simpa using h
        rw [List.takeWhile_cons, h2]
        rfl
    | succ k =>
      have h0 := hall 0 a (by omega) rfl
      rw [List.takeWhile_cons, h0]
      simp only [if_true, List.length_cons]
      rw [ih k (fun j y hj hy => hall (j + 1) y (by omega) (by simpa using hy)) (by
        rcases hend with h | ⟨y, h, h2⟩
        · exact Or.inl (by simpa using h)
        · exact Or.inr ⟨y, by simpa using h, h2⟩)]
noncomputable def learnB0 : Code := ((Tryz.f11.body.bind (findBlock 0)).getD .skip)
set_option maxRecDepth 100000 in
set_option maxHeartbeats 8000000 in
theorem learn_b0 (Q : Exit → Act → World → Prop) (W : World) (b2 b3 : Nat) (me c d : Int) (y1 y2 y4 y5 p3 q3 : Value) (so : Option Addr) (n sc : Nat) (l : List XID) (u0 u1 u4 u5 u7 u8 u9 u10 u11 u12 u13 u14 u15 u16 u17 u18 u19 u20 u21 u22 u23 u24 u25 u26 u27 u28 u29 u30 u31 u32 u33 u34 u35 u36 u37 u38 u39 u40 u41 u42 u43 u44 u45 u46 u47 u48 u49 u50 u51 u52 u53 u54 u55 u56 u57 u58 u59 u60 u61 u62 u63 u64 u65 u66 u67 u68 u69 u70 u71 u72 u73 u74 u75 u76 u77 u78 : Value)
    (h2 : Box W b2 #[.int .i64 me, y1, y2, .slice so n sc, y4, y5] 29) (h3 : Box W b3 #[.int .i64 c, .int .i64 d, p3, q3] 42) (hs : RowJ W (.slice so n sc) l) (hn : n = l.length) (hm : n ≤ 1000000)
    (hQ : ∀ (wr : World) (v12 v13 v14 v15 v16 v17 v18 v19 v20 v21 v22 v23 v24 v25 v26 v27 v28 : Value), Below W.heap.size W wr → Q .normal ⟨(u0 :: u1 :: .pointer (some ⟨b2, 0, none⟩) :: .pointer (some ⟨b3, 0, none⟩) :: u4 :: u5 :: .int .i64 (placeI l (c, d) : Nat) :: u7 :: u8 :: u9 :: u10 :: u11 :: v12 :: v13 :: v14 :: v15 :: v16 :: v17 :: v18 :: v19 :: v20 :: v21 :: v22 :: v23 :: v24 :: v25 :: v26 :: v27 :: v28 :: u29 :: u30 :: u31 :: u32 :: u33 :: u34 :: u35 :: u36 :: u37 :: u38 :: u39 :: u40 :: u41 :: u42 :: u43 :: u44 :: u45 :: u46 :: u47 :: u48 :: u49 :: u50 :: u51 :: u52 :: u53 :: u54 :: u55 :: u56 :: u57 :: u58 :: u59 :: u60 :: u61 :: u62 :: u63 :: u64 :: u65 :: u66 :: u67 :: u68 :: u69 :: u70 :: u71 :: u72 :: u73 :: u74 :: u75 :: u76 :: u77 :: u78 :: []).toArray, []⟩ wr) :
    Code.wp Tryz.prog learnB0 Q ⟨(u0 :: u1 :: .pointer (some ⟨b2, 0, none⟩) :: .pointer (some ⟨b3, 0, none⟩) :: u4 :: u5 :: .int .i64 0 :: u7 :: u8 :: u9 :: u10 :: u11 :: u12 :: u13 :: u14 :: u15 :: u16 :: u17 :: u18 :: u19 :: u20 :: u21 :: u22 :: u23 :: u24 :: u25 :: u26 :: u27 :: u28 :: u29 :: u30 :: u31 :: u32 :: u33 :: u34 :: u35 :: u36 :: u37 :: u38 :: u39 :: u40 :: u41 :: u42 :: u43 :: u44 :: u45 :: u46 :: u47 :: u48 :: u49 :: u50 :: u51 :: u52 :: u53 :: u54 :: u55 :: u56 :: u57 :: u58 :: u59 :: u60 :: u61 :: u62 :: u63 :: u64 :: u65 :: u66 :: u67 :: u68 :: u69 :: u70 :: u71 :: u72 :: u73 :: u74 :: u75 :: u76 :: u77 :: u78 :: []).toArray, []⟩ W := by
  have HQ := Lib.hid hQ
  have H2 := Lib.hid h2
  have H3 := Lib.hid h3
  have HS := Lib.hid hs
  have HN := Lib.hid hn
  clear hQ h2 h3 hs hn
  conv => arg 2; whnf
  go_wp2
  go_loopw [6] (fun i wr => ∃ k : Nat, k ≤ n ∧ i = .int .i64 k ∧ Below W.heap.size W wr ∧ ∀ (j : Nat) (y : Id), j < k → l[j]? = some y → lessI y (c, d) = true) (fun i _ => n - (intOf i).toNat)
  case atStart => exact ⟨0, Nat.zero_le _, rfl, Below.refl _ _, fun j y h => by omega⟩
  case round =>
    obtain ⟨k, hk, rfl, hbe, hall⟩ := hrel
    have BE := Lib.hid hbe
    have AL := Lib.hid hall
    clear hbe hall
    have q0 := cell_regrown (show wr.cell? ⟨b2, 3, none⟩ = some (.slice so n sc) from (H2.out.on BE.out).cell 3)
    have r0 := cell_regrown (show wr.cell? ⟨b3, 0, none⟩ = some (.int .i64 c) from (H3.out.on BE.out).cell 0)
    have r1 := cell_regrown (show wr.cell? ⟨b3, 1, none⟩ = some (.int .i64 d) from (H3.out.on BE.out).cell 1)
    have hw3 : IntKind.i64.wrap ((k : Int) + 1) = (k : Int) + 1 := IntWalk.i64_in _ (by omega)
    by_cases hlt : k < n
    · obtain ⟨y, hy⟩ : ∃ y, l[k]? = some y := ⟨_, List.getElem?_eq_getElem (by rw [← HN.out]; exact hlt)⟩
      obtain ⟨p, ix, px⟩ := elJ HS.out rfl HN.out.symm hy
      have px2 := px wr BE.out
      obtain ⟨y1, y2⟩ := y
      simp only at px2
      have p0 := cell_regrown px2.1
      have p1 := cell_regrown px2.2
      have dlt : decide ((k : Int) < (n : Int)) = true := decide_eq_true (by omega)
      have dln : decide (k < n) = true := decide_eq_true hlt
      obtain ⟨r, hr⟩ : ∃ r, lessI (y1, y2) (c, d) = r := ⟨_, rfl⟩
      have LS := Lib.hid (fun d' os => Calls.regrown_of (d := d') (os := os) ((less_any (y1, y2) (c, d) (grow (redrawn wr d') os)).mono fun _ _ h => ⟨by rw [h.1, hr], h.2⟩))
      have HY := Lib.hid (show l[k]? = some (y1, y2) by exact hy)
      have HR := Lib.hid hr
      clear px px2 hy hr
      cases r
      · go_wp2_with fail
        refine wp_region_quiet_below (by kernel_rfl) (by kernel_rfl) ?_
        repeat (go_big_quiet_step (first | (with_reducible exact LS.out _ _)))
        refine wpQuiet_nil ?_
        intro _ hw'
        obtain ⟨⟨dq, osq⟩, hw''⟩ := hw'
        subst hw''
        have Z6 := below_regrown wr dq osq
        have HF := Lib.hid (fun v12 v13 v14 v15 v16 v17 v18 v19 v20 v21 v22 v23 v24 v25 v26 v27 v28 => HQ.out (grow (redrawn wr dq) osq) v12 v13 v14 v15 v16 v17 v18 v19 v20 v21 v22 v23 v24 v25 v26 v27 v28 (BE.out.trans (Z6.mono BE.out.size)))
        rw [place_is l (c, d) k AL.out (Or.inr ⟨_, HY.out, HR.out⟩)] at HF
        clear ix HQ q0 r0 r1 LS dlt dln p0 p1
        go_wp2
        exact HF.out _ _ _ _ _ _ _ _ _ _ _ _ _ _ _ _ _
      · go_wp2_with fail
        refine wp_region_quiet_below (by kernel_rfl) (by kernel_rfl) ?_
        repeat (go_big_quiet_step (first | (with_reducible exact LS.out _ _)))
        refine wpQuiet_nil ?_
        intro _ hw'
        obtain ⟨⟨dq, osq⟩, hw''⟩ := hw'
        subst hw''
        have Z6 := Lib.hid (below_regrown wr dq osq)
        clear ix q0 r0 r1 LS dlt dln p0 p1
        go_wp2
        go_roundw
        case rel => exact ⟨k + 1, by omega, by go_num, BE.out.trans (Z6.out.mono BE.out.size), fun j y' hj h1 => by
          rcases Nat.lt_or_ge j k with h3 | h3
          · exact AL.out j y' h3 h1
          · obtain rfl : j = k := by omega
            have e1 := HY.out
            rw [h1] at e1
            rw [Option.some.inj e1]
            exact HR.out⟩
        case measure => simp [intOf]; omega
    · obtain rfl : k = n := by omega
      have dlt : decide ((k : Int) < (k : Int)) = false := by simp
      have dln : decide (k < k) = false := by simp
      go_wp2_with fail
      refine wp_region_quiet_below (by kernel_rfl) (by kernel_rfl) ?_
      repeat (go_big_quiet_step (fail))
      refine wpQuiet_nil ?_
      intro _ hw'
      obtain ⟨⟨dq, osq⟩, hw''⟩ := hw'
      subst hw''
      have Z6 := below_regrown wr dq osq
      have HF := Lib.hid (fun v12 v13 v14 v15 v16 v17 v18 v19 v20 v21 v22 v23 v24 v25 v26 v27 v28 => HQ.out (grow (redrawn wr dq) osq) v12 v13 v14 v15 v16 v17 v18 v19 v20 v21 v22 v23 v24 v25 v26 v27 v28 (BE.out.trans (Z6.mono BE.out.size)))
      rw [place_is l (c, d) k AL.out (Or.inl (by simpa using HN.out))] at HF
      clear HQ q0 r0 r1 dlt dln
      go_wp2
      exact HF.out _ _ _ _ _ _ _ _ _ _ _ _ _ _ _ _ _
end Go.Proofs.YtonoadjmglkhaaaGreat.Bk
