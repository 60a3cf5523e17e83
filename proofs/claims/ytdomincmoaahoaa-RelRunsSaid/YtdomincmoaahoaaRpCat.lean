/-
  slices.Grow and slices.Concat over constraints. Condition: at most 100 of each.
-/
import Derived.Test.YtdomincmoaahoaaPrBase
import Derived.Test.YtdomincmoaahoaaRx
import Derived.Lib.Hide
namespace Go.Proofs.Ytdomincmoaahoaa.Pr
open Go.RowKit Go.Proofs.Ytdomincmoaahoaa Go.Proofs.Ytdomincmoaahoaa.Pu Go.Proofs.Ytdomincmoaahoaa.Rw

/-- Zeros onto nothing: a new block. -/
theorem grow_new {α : Type} {E : Ek α} (K : E.Ok) (tn : TypeId) (htn : Try.prog.underlying tn = some (.int .i64)) (n : Nat) (h0 : 0 < n) (hn : n ≤ 1000) (W : World) :
    ∃ (G : Nat) (R : Array Value), n ≤ G ∧ G ≤ maxLen ∧ R.size = G * E.n ∧
      ∀ ty, (Builtin.append_ #[E.ts, tn] ty #[.slice none 0 0, .int .i64 n]).run Try.prog W = .ok (.slice (some ⟨W.heap.size, 0, none⟩) n G) (W.drew.alloc (.cells R E.t)) := by
  obtain ⟨i, i1, i2, i3, i4⟩ := K.info
  have hf := K.few
  have hpos := K.pos
  have happ := fun ty => Lib.run_append_grow_zeros (P := Try.prog) W E.ts tn ty E.t i _ .i64 .i64 K.hu htn i1 i2 none 0 0 [] (run_firstCells_none _ _ _ _ _) n h0 (by rw [i3]; exact hpos) (by omega) (by omega)
    (by rw [i4]; exact Nat.le_trans (Nat.mul_le_mul hn hf) (by decide))
    (growslice_fits (by omega) (by rw [i4]; exact Nat.le_trans (Nat.mul_le_mul (show 0 + n ≤ 2000 by omega) hf) (by decide)))
  rw [Nat.zero_add] at happ
  have hG1 := grownCap_ge W n 0 E.t
  have hG2 := grownCap_le_maxLen W n 0 E.t (by unfold maxLen; omega)
  generalize grownCap W n 0 E.t = G at happ hG1 hG2
  refine ⟨G, _, hG1, hG2, ?_, happ⟩
  simp only [Array.size_append, List.size_toArray, List.length_nil, size_zeroCells, K.zs, Nat.zero_add, ← Nat.add_mul]
  rw [show n + (G - n) = G by omega]
def CatQ (l : List C5) (w : World) (e : Ending) (w' : World) : Prop := ∃ v, e = .returned v ∧ OwnC w' w.heap.size v l ∧ Below w.heap.size w w'
set_option maxRecDepth 100000 in
set_option maxHeartbeats 4000000 in
theorem grow_any (n : Nat) (w : World) (hn : n ≤ 200) :
    Calls Try.prog 48 #[.slice none 0 0, .int .i64 n] w (CatQ [] w) := by
  rcases Nat.eq_zero_or_pos n with rfl | h0
  · have Q := Lib.hid (show CatQ [] w (.returned (.slice none 0 0)) w from ⟨_, rfl, own_nil _ _, Below.refl _ _⟩)
    go_enter Try.func48, Try.ntmps48
    go_wp2
    go_ret
    exact Q.out
  · obtain ⟨G, R, g1, g2, g3, hr⟩ := grow_new (E := EC) okC 3 Try.underlying3 n h0 (by omega) w
    have r := hr 25
    have s1 := slice_lo (E := EC) okC ⟨w.heap.size, 0, none⟩ 0 n G (Nat.zero_le _)
    have Q := Lib.hid (show CatQ [] w (.returned (.slice (some ⟨w.heap.size, 0, none⟩) 0 G)) (w.drew.alloc (.cells R 23)) from
      ⟨_, rfl, own_shut okC (l := []) rfl (Nat.le_refl _) (box_new w.drew R 23) (Nat.zero_le _) g2 g3 (by simp [flat]), (Below.refl _ _).drew.alloc (by simp) _⟩)
    change (Builtin.append_ #[25, 3] 25 #[.slice none 0 0, .int .i64 (n : Int)]).run Try.prog w = .ok (.slice (some ⟨w.heap.size, 0, none⟩) n G) (w.drew.alloc (.cells R 23)) at r
    change ∀ W, (Instr.sliceAt 25 (.slice (some ⟨w.heap.size, 0, none⟩) n G) none (some (.int .i64 0)) none).run Try.prog W = .ok (.slice (some ⟨w.heap.size, 0, none⟩) 0 G) W at s1
    have e1 : decide ((n : Int) < 0) = false := by simp
    have e2 : decide ((0 : Int) < (n : Int)) = true := by simp; omega
    unfold maxLen at g2
    clear hr g3
    go_enter Try.func48, Try.ntmps48
    go_wp2_with (first | (at_builtin; refine wpList_append_run2 rfl _ _ 25 3 rfl rfl rfl r ?_) | fail)
    go_ret
    exact Q.out

/-- How many there are, so far. -/
def CatN (n m : Nat) (s i : Value) : Prop := (i = .int .i64 0 ∧ s = .int .i64 0) ∨ (i = .int .i64 1 ∧ s = .int .i64 (n : Int)) ∨ (i = .int .i64 2 ∧ s = .int .i64 ((n + m : Nat) : Int))
/-- What is put together, so far. -/
def CatL (w : World) (a b : List C5) (v i : Value) (wr : World) : Prop := ((i = .int .i64 0 ∧ OwnC wr w.heap.size v []) ∨ (i = .int .i64 1 ∧ OwnC wr w.heap.size v a) ∨ (i = .int .i64 2 ∧ OwnC wr w.heap.size v (a ++ b))) ∧ Below w.heap.size w wr
set_option maxRecDepth 100000 in
set_option maxHeartbeats 4000000 in
theorem concat_any (g : Nat) (av_ bv : Value) (a b : List C5) (w : World) (c0 : w.cell? ⟨g, 0, none⟩ = some av_) (c1 : w.cell? ⟨g, 1, none⟩ = some bv) (ha : RowC w av_ a) (hb : RowC w bv b) (la : a.length ≤ 100) (lb : b.length ≤ 100) :
    Calls Try.prog 42 #[.slice (some ⟨g, 0, none⟩) 2 2] w (CatQ (a ++ b) w) := by
  have HA := Lib.hid ha
  have HB := Lib.hid hb
  have C0 := Lib.hid c0
  have C1 := Lib.hid c1
  have hg : g < w.heap.size := World.block_lt_of_cell? w _ c0
  obtain ⟨ao, ac, rfl⟩ := ha.len
  obtain ⟨bo, bc, rfl⟩ := hb.len
  clear ha hb c0 c1
  go_enter Try.func42, Try.ntmps42
  go_wp2
  go_loop [3, 11] (fun s i => CatN a.length b.length s i) (fun _ i => (2 - intOf i).toNat)
  case atStart => exact Or.inl ⟨rfl, rfl⟩
  case round =>
    rcases hrel with ⟨rfl, rfl⟩ | ⟨rfl, rfl⟩ | ⟨rfl, rfl⟩
    · have c0 := C0.out
      go_wp2
      go_round
      case rel => exact Or.inr (Or.inl ⟨rfl, rfl⟩)
      case measure => simp [intOf]
    · have c1 := C1.out
      go_wp2
      go_round
      case rel => exact Or.inr (Or.inr ⟨rfl, by go_num⟩)
      case measure => simp [intOf]
    · have GR := Lib.hid (grow_any (a.length + b.length) w (by omega))
      go_wp2_with fail
      refine GR.out.mono ?_
      rintro e1 w1 ⟨v1, rfl, ho, hb1⟩
      have O1 := Lib.hid ho
      have B1 := Lib.hid hb1
      clear ho hb1 GR
      go_wp2
      go_loopw [6, 27] (fun v i wr => CatL w a b v i wr) (fun _ i _ => (2 - intOf i).toNat)
      case atStart => exact ⟨Or.inl ⟨rfl, O1.out⟩, B1.out⟩
      case round =>
        obtain ⟨hc, hbw⟩ := hrel
        have BW := Lib.hid hbw
        clear hbw
        rcases hc with ⟨rfl, ho⟩ | ⟨rfl, ho⟩ | ⟨rfl, ho⟩
        · have c0 := (BW.out.cell (p := ⟨g, 0, none⟩) hg).trans C0.out
          obtain ⟨v', w', r, o', gr⟩ := appC w.heap.size ho (HA.out.on BW.out) (by simp) (by omega) BW.out.size
          have B' := Lib.hid (BW.out.grown gr BW.out.size (fun j hj => (ho.lt j hj).1))
          have O' := Lib.hid o'
          clear ho o' gr
          go_wp2_with (first | (at_builtin; refine wpList_append_run rfl _ _ 25 rfl rfl rfl r ?_) | fail)
          go_roundw
          case rel => exact ⟨Or.inr (Or.inl ⟨rfl, O'.out⟩), B'.out⟩
          case measure => simp [intOf]
        · have c1 := (BW.out.cell (p := ⟨g, 1, none⟩) hg).trans C1.out
          obtain ⟨v', w', r, o', gr⟩ := appC w.heap.size ho (HB.out.on BW.out) (by omega) (by omega) BW.out.size
          have B' := Lib.hid (BW.out.grown gr BW.out.size (fun j hj => (ho.lt j hj).1))
          have O' := Lib.hid o'
          clear ho o' gr
          go_wp2_with (first | (at_builtin; refine wpList_append_run rfl _ _ 25 rfl rfl rfl r ?_) | fail)
          go_roundw
          case rel => exact ⟨Or.inr (Or.inr ⟨rfl, O'.out⟩), B'.out⟩
          case measure => simp [intOf]
        · have Q := Lib.hid (show CatQ (a ++ b) w (.returned _) _ from ⟨_, rfl, ho, BW.out⟩)
          clear ho
          go_wp2
          go_ret
          exact Q.out
end Go.Proofs.Ytdomincmoaahoaa.Pr
