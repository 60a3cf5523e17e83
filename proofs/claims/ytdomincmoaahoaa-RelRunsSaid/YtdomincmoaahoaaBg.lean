/-
  slices.Insert of one constraint into a list of one's own, as package pred calls it. Condition: at most 100 constraints.
  slices.Grow and slices.Concat over constraints. Condition: at most 100 of each.
-/
import Derived.Test.YtdomincmoaahoaaBd
import Derived.Test.YtdomincmoaahoaaBb
import Derived.Lib.Hide
import Derived.Lib.QuietBelow
import Derived.BigQuiet
namespace Go.Proofs.Ytdomincmoaahoaa.Pr
open Go.RowKit Go.Sort Go.Proofs.Ytdomincmoaahoaa Go.Proofs.Ytdomincmoaahoaa.Pu Go.Proofs.Ytdomincmoaahoaa.Rw

theorem row_box {W : World} {b : Nat} {c : C5} (h : Box W b (cells5 c).toArray 23) : RowC W (.slice (some ⟨b, 0, none⟩) 1 1) [c] :=
  Or.inr ⟨⟨b, 0, none⟩, 1, rfl, by simp, by decide, box_one h (by simp [EC])⟩
def InsQ (B : Nat) (l : List C5) (k : Nat) (c : C5) (W : World) (e : Ending) (w' : World) : Prop := ∃ v', e = .returned v' ∧ OwnC w' B v' (l.take k ++ c :: l.drop k) ∧ Below B W w'
set_option maxRecDepth 100000 in
set_option maxHeartbeats 4000000 in
theorem insert_end (B : Nat) (v : Value) (l : List C5) (c : C5) (b : Nat) (W : World) (ho : OwnC W B v l) (hx : Box W b (cells5 c).toArray 23) (hl : l.length ≤ 100) (hB : B ≤ W.heap.size) :
    Calls Try.prog 54 #[v, .int .i64 (l.length : Nat), .slice (some ⟨b, 0, none⟩) 1 1] W (InsQ B l l.length c W) := by
  obtain ⟨v', w', hr, ho2, hg⟩ := appC B ho (row_box hx) (by omega) (by simp) hB
  have Q := Lib.hid (show InsQ B l l.length c W (.returned v') w' from ⟨v', rfl, by rw [List.take_of_length_le (Nat.le_refl _), List.drop_of_length_le (Nat.le_refl _)]; exact ho2, (Below.refl B W).grown hg hB (fun j hj => (ho.lt j hj).1)⟩)
  obtain ⟨sx, hs, _⟩ := hiC (Row.of_own ho) l.length (Nat.le_refl _)
  obtain ⟨ao, ac, rfl⟩ := (Row.of_own ho).len
  clear ho ho2 hg
  generalize hn : l.length = n at *
  clear hn
  go_enter Try.func54, Try.ntmps54
  go_wp2_with (first | (at_builtin; refine wpList_append_run rfl _ _ 25 rfl rfl rfl hr ?_) | fail)
  go_ret
  exact Q.out

theorem no_over (w : World) (g b k la lb cb : Nat) (cur cs : Array Value) (hb : Box w b cs 23) (hg : Box w g cur 23) (hne : b ≠ g) (h0 : 0 < cur.size) : (callFunc 57 #[.slice (some ⟨b, 0, none⟩) la 1, .slice (some ⟨g, k, none⟩) lb cb]).run Try.prog w = .ok (.value (.bool false)) w := by
  rw [run_callFunc_extern Try.func57 (by kernel_rfl) (by kernel_rfl) (by kernel_rfl) (e := Extern.SlicesOverlaps.overlaps #[25, 25] #[4]) (by kernel_rfl),
    Lib.run_overlaps_apart w 25 4 23 Try.underlying25 5 Try.sizeOf23 ⟨b, 0, none⟩ ⟨g, k, none⟩ la 1 lb cb hne 23 23 cs.size cur.size hb.shape hg.shape (by omega) (hb.fr 0) (hb.fr _)]
  rfl
set_option maxRecDepth 100000 in
set_option maxHeartbeats 4000000 in
theorem insert_shift (B g n cap : Nat) (cur : Array Value) (l : List C5) (k : Nat) (c : C5) (b : Nat) (W : World) (hn : n = l.length) (hBg : B ≤ g) (hg : Box W g cur 23) (hcm : cap ≤ maxLen) (hsz : cur.size = cap * 5) (ht : cur.toList.take (n * 5) = flat EC l) (hx : Box W b (cells5 c).toArray 23) (hne : b ≠ g) (hk : k < n) (hroom : n + 1 ≤ cap) (hl : n ≤ 100) :
    Calls Try.prog 54 #[.slice (some ⟨g, 0, none⟩) n cap, .int .i64 k, .slice (some ⟨b, 0, none⟩) 1 1] W (InsQ B l k c W) := by
  obtain ⟨R1, R2, r1, r2, ow⟩ := shift_mid (E := EC) (l := l) (k := k) (cap := cap) (cur := cur) (cs := (cells5 c).toArray) (c := c) okC (by omega) (by omega) hsz (by rw [← hn]; exact ht) g b hne
  have hov := fun lb cb => no_over W g b ((k + 1) * 5) 1 lb cb cur (cells5 c).toArray hx hg hne (by omega)
  have s0 := cut_hi (E := EC) okC g k n cap (by omega) (by omega)
  have s1 := slice_lo (E := EC) okC ⟨g, 0, none⟩ (n + 1) n cap (by omega)
  have s2 := cut_hi (E := EC) okC g (k + 1) (n + 1) cap (by omega) (by omega)
  have s3 := cut_hi (E := EC) okC g k (n + 1) cap (by omega) (by omega)
  have q1 := r1 W.drew 3 (n + 1 - (k + 1)) (cap - (k + 1)) (n + 1 - k) (cap - k) hg (by omega)
  have q2 := r2 (W.drew.setRow g R1) 3 (n + 1 - k) (cap - k) (Box.set (show Box W.drew g cur 23 from hg) R1) (Box.other (show Box W.drew b _ 23 from hx) hne R1) rfl (by omega)
  have Q := Lib.hid (show InsQ B l k c W (.returned (.slice (some ⟨g, 0, none⟩) (n + 1) cap)) ((W.drew.setRow g R1).setRow g R2) from ⟨_, rfl, by rw [hn]; exact ow _ B hBg hcm (Box.set (Box.set (show Box W.drew g cur 23 from hg) R1) R2), below_setRow (below_setRow (Below.refl B W).drew hBg _) hBg _⟩)
  clear r1 r2 ow hg ht hx hsz hBg hcm
  change ∀ w, (Instr.sliceAt 25 (.slice (some ⟨g, 0, none⟩) n cap) (some (.int .i64 k)) none none).run Try.prog w = .ok (.slice (some ⟨g, k * 5, none⟩) (n - k) (cap - k)) w at s0
  change ∀ w, (Instr.sliceAt 25 (.slice (some ⟨g, 0, none⟩) n cap) none (some (.int .i64 ((n : Int) + 1))) none).run Try.prog w = .ok (.slice (some ⟨g, 0, none⟩) (n + 1) cap) w at s1
  change ∀ w, (Instr.sliceAt 25 (.slice (some ⟨g, 0, none⟩) (n + 1) cap) (some (.int .i64 ((k : Int) + 1))) none none).run Try.prog w = .ok (.slice (some ⟨g, (k + 1) * 5, none⟩) (n + 1 - (k + 1)) (cap - (k + 1))) w at s2
  change ∀ w, (Instr.sliceAt 25 (.slice (some ⟨g, 0, none⟩) (n + 1) cap) (some (.int .i64 k)) none none).run Try.prog w = .ok (.slice (some ⟨g, k * 5, none⟩) (n + 1 - k) (cap - k)) w at s3
  have e1 : ((k : Int) == (n : Int)) = false := by rw [beq_eq_false_iff_ne]; omega
  have e2 : decide ((cap : Int) < (n : Int) + 1) = false := by simp; omega
  change (Builtin.copy_ #[25, 25] 3 #[.slice (some ⟨g, (k + 1) * 5, none⟩) (n + 1 - (k + 1)) (cap - (k + 1)), .slice (some ⟨g, k * 5, none⟩) (n + 1 - k) (cap - k)]).run Try.prog W.drew = .ok (.int .i64 ((l.length - k : Nat) : Int)) (W.drew.setRow g R1) at q1
  change (Builtin.copy_ #[25, 25] 3 #[.slice (some ⟨g, k * 5, none⟩) (n + 1 - k) (cap - k), .slice (some ⟨b, 0, none⟩) 1 1]).run Try.prog (W.drew.setRow g R1) = .ok (.int .i64 1) ((W.drew.setRow g R1).setRow g R2) at q2
  clear hn
  go_enter Try.func54, Try.ntmps54
  go_wp2_with (first | (simp only [hov]) | fail)
  clear hov s0 s1 s2 s3
  have hw1 : IntKind.i64.wrap ((k : Int) + 1) = (k : Int) + 1 := by rw [IntKind.wrap_i64]; omega
  have hb1 : (0 : Int) ≤ (k : Int) + 1 := by omega
  have hb0 : (k : Int) + 1 ≤ (n : Int) + 1 := by omega
  have htn : ((k : Int) + 1).toNat = k + 1 := by omega
  have hb2 : ¬ (cap = k + 1) := by omega
  have hb3 : (k : Int) ≤ (n : Int) + 1 := by omega
  have hb4 : ¬ (cap = k) := by omega
  have h81 : n + 1 - (k + 1) = n - k := by omega
  rw [h81] at q1
  clear h81
  go_region_law (refine step_copy_run rfl (.tmp 73) (.tmp 76) 25 rfl (v := .slice (some ⟨g, (k + 1) * 5, none⟩) (n - k) (cap - (k + 1))) (xv := .slice (some ⟨g, k * 5, none⟩) (n + 1 - k) (cap - k)) (by simp [Act.eval, Act.put]) (by simp [Act.eval, Act.put]) q1 ?_)
  all_goals simp only [Exit.then]
  all_goals apply_assumption
  clear q1 hw1 hb1 hb0 htn hb2 hb3 hb4
  have s3 := cut_hi (E := EC) okC g k (n + 1) cap (by omega) (by omega)
  change ∀ w, (Instr.sliceAt 25 (.slice (some ⟨g, 0, none⟩) (n + 1) cap) (some (.int .i64 k)) none none).run Try.prog w = .ok (.slice (some ⟨g, k * 5, none⟩) (n + 1 - k) (cap - k)) w at s3
  go_wp2_with (first | (at_builtin; refine wpList_copy_run rfl _ _ 25 rfl rfl rfl q2 ?_) | fail)
  go_ret
  exact Q.out
set_option maxRecDepth 100000 in
set_option maxHeartbeats 4000000 in
theorem insert_grow (B g n cap : Nat) (cur : Array Value) (l : List C5) (k : Nat) (c : C5) (b : Nat) (W : World) (hn : n = l.length) (hg : Box W g cur 23) (hcm : cap ≤ maxLen) (hnc : n ≤ cap) (ht : cur.toList.take (n * 5) = flat EC l) (hx : Box W b (cells5 c).toArray 23) (hk : k < n) (hroom : cap < n + 1) (hl : n ≤ 100) (hB : B ≤ W.heap.size) :
    Calls Try.prog 54 #[.slice (some ⟨g, 0, none⟩) n cap, .int .i64 k, .slice (some ⟨b, 0, none⟩) 1 1] W (InsQ B l k c W) := by
  have hgw := hg.lt
  have hbw := hx.lt
  obtain ⟨G, R1, R2, R3, hG1, hG2, r1, r2, r3, ow⟩ := grow_mid (E := EC) (l := l) (k := k) (cap := cap) (cur := cur) (cs := (cells5 c).toArray) (c := c) okC 3 Try.underlying3 (by omega) (by omega) (by omega) (by omega) (by rw [← hn]; exact ht) W g b hg hbw
  unfold maxLen at hcm hG2
  have s0 := cut_hi (E := EC) okC g k n cap (by omega) (by omega)
  have s1 := slice_lo (E := EC) okC ⟨g, 0, none⟩ k n cap (by omega)
  have s2 := cut_hi (E := EC) okC W.heap.size k (n + 1) G (by omega) (by omega)
  have s3 := cut_hi (E := EC) okC W.heap.size (k + 1) (n + 1) G (by omega) (by omega)
  have a1 := r1 25
  have n1 := box_new W.drew R1 23
  have bl : W.drew.heap.size = W.heap.size := rfl
  rw [bl] at n1
  have g1 : Box (W.drew.alloc (.cells R1 23)) g cur 23 := Box.more (show Box W.drew g cur 23 from hg) _
  have x1 : Box (W.drew.alloc (.cells R1 23)) b (cells5 c).toArray 23 := Box.more (show Box W.drew b _ 23 from hx) _
  have q2 := r2 (W.drew.alloc (.cells R1 23)) 3 (n + 1 - k) (G - k) n1 x1 rfl (by omega)
  have q3 := r3 ((W.drew.alloc (.cells R1 23)).setRow W.heap.size R2).drew 3 (n + 1 - (k + 1)) (G - (k + 1)) (n - k) (cap - k) (Box.set n1 R2) (Box.other g1 (by omega) R2) (by omega)
  have Q := Lib.hid (show InsQ B l k c W (.returned (.slice (some ⟨W.heap.size, 0, none⟩) (n + 1) G)) (((W.drew.alloc (.cells R1 23)).setRow W.heap.size R2).drew.setRow W.heap.size R3) from ⟨_, rfl, by rw [hn]; exact ow _ B hB (Box.set (Box.set n1 R2) R3), below_setRow (below_setRow ((Below.refl B W).drew.alloc hB _) hB _).drew hB _⟩)
  have l1 : l.length + 1 = n + 1 := by rw [hn]
  rw [l1, ← hn] at a1
  clear r1 r2 r3 ow hg ht hx g1 x1 n1 bl l1
  change ∀ w, (Instr.sliceAt 25 (.slice (some ⟨g, 0, none⟩) n cap) (some (.int .i64 k)) none none).run Try.prog w = .ok (.slice (some ⟨g, k * 5, none⟩) (n - k) (cap - k)) w at s0
  change ∀ w, (Instr.sliceAt 25 (.slice (some ⟨g, 0, none⟩) n cap) none (some (.int .i64 k)) none).run Try.prog w = .ok (.slice (some ⟨g, 0, none⟩) k cap) w at s1
  change ∀ w, (Instr.sliceAt 25 (.slice (some ⟨W.heap.size, 0, none⟩) (n + 1) G) (some (.int .i64 k)) none none).run Try.prog w = .ok (.slice (some ⟨W.heap.size, k * 5, none⟩) (n + 1 - k) (G - k)) w at s2
  change ∀ w, (Instr.sliceAt 25 (.slice (some ⟨W.heap.size, 0, none⟩) (n + 1) G) (some (.int .i64 ((k : Int) + 1))) none none).run Try.prog w = .ok (.slice (some ⟨W.heap.size, (k + 1) * 5, none⟩) (n + 1 - (k + 1)) (G - (k + 1))) w at s3
  change (Builtin.append_ #[25, 3] 25 #[.slice (some ⟨g, 0, none⟩) k cap, .int .i64 ((n : Int) + 1 - k)]).run Try.prog W = .ok (.slice (some ⟨W.heap.size, 0, none⟩) (n + 1) G) (W.drew.alloc (.cells R1 23)) at a1
  change (Builtin.copy_ #[25, 25] 3 #[.slice (some ⟨W.heap.size, k * 5, none⟩) (n + 1 - k) (G - k), .slice (some ⟨b, 0, none⟩) 1 1]).run Try.prog (W.drew.alloc (.cells R1 23)) = .ok (.int .i64 1) ((W.drew.alloc (.cells R1 23)).setRow W.heap.size R2) at q2
  change (Builtin.copy_ #[25, 25] 3 #[.slice (some ⟨W.heap.size, (k + 1) * 5, none⟩) (n + 1 - (k + 1)) (G - (k + 1)), .slice (some ⟨g, k * 5, none⟩) (n - k) (cap - k)]).run Try.prog ((W.drew.alloc (.cells R1 23)).setRow W.heap.size R2).drew = .ok (.int .i64 ((l.length - k : Nat) : Int)) (((W.drew.alloc (.cells R1 23)).setRow W.heap.size R2).drew.setRow W.heap.size R3) at q3
  have e1 : ((k : Int) == (n : Int)) = false := by rw [beq_eq_false_iff_ne]; omega
  have e2 : decide ((cap : Int) < (n : Int) + 1) = true := by simp; omega
  have hGn : n + 1 ≤ G := by omega
  clear hn
  generalize W.heap.size = N at *
  generalize W.drew.alloc (.cells R1 23) = W1 at *
  generalize W1.setRow N R2 = W2 at *
  go_enter Try.func54, Try.ntmps54
  go_wp2_with (first | (at_builtin; refine wpList_append_run2 rfl _ _ 25 3 rfl rfl rfl a1 ?_) | (at_builtin; refine wpList_copy_run rfl _ _ 25 rfl rfl rfl q2 ?_) | fail)
  clear a1 q2 s0 s1 s2 s3
  have hw1 : IntKind.i64.wrap ((k : Int) + 1) = (k : Int) + 1 := by rw [IntKind.wrap_i64]; omega
  have hb1 : (0 : Int) ≤ (k : Int) + 1 := by omega
  have hb0 : (k : Int) + 1 ≤ (n : Int) + 1 := by omega
  have htn : ((k : Int) + 1).toNat = k + 1 := by omega
  have hb2 : ¬ (G = k + 1) := by omega
  have hb3 : (k : Int) ≤ (n : Int) := by omega
  have hb4 : ¬ (cap = k) := by omega
  have h81 : n + 1 - (k + 1) = n - k := by omega
  rw [h81] at q3
  clear h81
  go_region_law (refine step_copy_run rfl (.tmp 50) (.tmp 53) 25 rfl (v := .slice (some ⟨N, (k + 1) * 5, none⟩) (n - k) (G - (k + 1))) (xv := .slice (some ⟨g, k * 5, none⟩) (n - k) (cap - k)) (by simp [Act.eval, Act.put]) (by simp [Act.eval, Act.put]) q3 ?_)
  all_goals simp only [Exit.then]
  all_goals apply_assumption
  go_wp2
  go_ret
  exact Q.out
theorem insert_any (B : Nat) (v : Value) (l : List C5) (k : Nat) (c : C5) (b : Nat) (W : World) (ho : OwnC W B v l) (hx : Box W b (cells5 c).toArray 23) (hne : v.ownBlock ≠ some b) (hk : k ≤ l.length) (hl : l.length ≤ 100) (hB : B ≤ W.heap.size) :
    Calls Try.prog 54 #[v, .int .i64 k, .slice (some ⟨b, 0, none⟩) 1 1] W (InsQ B l k c W) := by
  rcases Nat.lt_or_ge k l.length with h | h
  · rcases own_open ho with ⟨_, h2⟩ | ⟨g, cap, cur, rfl, h1, h2, h3, h4, h5, h6⟩
    · rw [h2] at h; simp at h
    · rcases Nat.lt_or_ge cap (l.length + 1) with h7 | h7
      · exact insert_grow B g _ cap cur l k c b W rfl h2 h4 h3 h6 hx h h7 hl hB
      · exact insert_shift B g _ cap cur l k c b W rfl h1 h2 h4 h5 h6 hx (fun e => hne (by simp [Value.ownBlock, e])) h h7 hl
  · obtain rfl : k = l.length := by omega
    exact insert_end B v l c b W ho hx hl hB
end Go.Proofs.Ytdomincmoaahoaa.Pr

namespace Go.Proofs.Ytdomincmoaahoaa.Pr
open Go.RowKit Go.Proofs.Ytdomincmoaahoaa Go.Proofs.Ytdomincmoaahoaa.Pu Go.Proofs.Ytdomincmoaahoaa.Rw

/-- Zeros onto nothing: a new block. -/
theorem grow_new {α : Type} {E : Ek α} (K : E.Ok) (tn : TypeId) (htn : Try.prog.underlying tn = some (.int .i64)) (n : Nat) (h0 : 0 < n) (hn : n ≤ 1000) (W : World) :
    ∃ (G : Nat) (R : Array Value), n ≤ G ∧ G ≤ maxLen ∧ R.size = G * E.n ∧
      ∀ ty, (Builtin.append_ #[E.ts, tn] ty #[.slice none 0 0, .int .i64 n]).run Try.prog W = .ok (.slice (some ⟨W.heap.size, 0, none⟩) n G) (W.drew.alloc (.cells R E.t)) := by
  obtain ⟨i, i1, i2, i3, i4⟩ := K.info
  have hf := K.few
  have hpos := K.pos
  have happ := fun ty => Lib.run_append_grow_zeros (P := Try.prog) W E.ts tn ty E.t i _ .i64 .i64 K.hu htn i1 i2 none 0 0 [] (run_firstCells_none _ _ _ _ _) n h0 (by rw [i3]; exact hpos) (by omega) (by omega)
    (by rw [i4]; exact Nat.le_trans (Nat.mul_le_mul hn hf) (by decide))
    (growslice_fits (by omega) (by rw [i4]; exact Nat.le_trans (Nat.mul_le_mul (show 0 + n ≤ 2000 by omega) hf) (by decide)))
  rw [Nat.zero_add] at happ
  have hG1 := grownCap_ge W n 0 E.t
  have hG2 := grownCap_le_maxLen W n 0 E.t (by unfold maxLen; omega)
  generalize grownCap W n 0 E.t = G at happ hG1 hG2
  refine ⟨G, _, hG1, hG2, ?_, happ⟩
  simp only [Array.size_append, List.size_toArray, List.length_nil, size_zeroCells, K.zs, Nat.zero_add, ← Nat.add_mul]
  rw [show n + (G - n) = G by omega]
def CatQ (l : List C5) (w : World) (e : Ending) (w' : World) : Prop := ∃ v, e = .returned v ∧ OwnC w' w.heap.size v l ∧ Below w.heap.size w w'
set_option maxRecDepth 100000 in
set_option maxHeartbeats 4000000 in
theorem grow_any (n : Nat) (w : World) (hn : n ≤ 200) :
    Calls Try.prog 48 #[.slice none 0 0, .int .i64 n] w (CatQ [] w) := by
  rcases Nat.eq_zero_or_pos n with rfl | h0
  · have Q := Lib.hid (show CatQ [] w (.returned (.slice none 0 0)) w from ⟨_, rfl, own_nil _ _, Below.refl _ _⟩)
    go_enter Try.func48, Try.ntmps48
    go_wp2
    go_ret
    exact Q.out
  · obtain ⟨G, R, g1, g2, g3, hr⟩ := grow_new (E := EC) okC 3 Try.underlying3 n h0 (by omega) w
    have r := hr 25
    have s1 := slice_lo (E := EC) okC ⟨w.heap.size, 0, none⟩ 0 n G (Nat.zero_le _)
    have Q := Lib.hid (show CatQ [] w (.returned (.slice (some ⟨w.heap.size, 0, none⟩) 0 G)) (w.drew.alloc (.cells R 23)) from
      ⟨_, rfl, own_shut okC (l := []) rfl (Nat.le_refl _) (box_new w.drew R 23) (Nat.zero_le _) g2 g3 (by simp [flat]), (Below.refl _ _).drew.alloc (by simp) _⟩)
    change (Builtin.append_ #[25, 3] 25 #[.slice none 0 0, .int .i64 (n : Int)]).run Try.prog w = .ok (.slice (some ⟨w.heap.size, 0, none⟩) n G) (w.drew.alloc (.cells R 23)) at r
    change ∀ W, (Instr.sliceAt 25 (.slice (some ⟨w.heap.size, 0, none⟩) n G) none (some (.int .i64 0)) none).run Try.prog W = .ok (.slice (some ⟨w.heap.size, 0, none⟩) 0 G) W at s1
    have e1 : decide ((n : Int) < 0) = false := by simp
    have e2 : decide ((0 : Int) < (n : Int)) = true := by simp; omega
    unfold maxLen at g2
    clear hr g3
    go_enter Try.func48, Try.ntmps48
    go_wp2_with (first | (at_builtin; refine wpList_append_run2 rfl _ _ 25 3 rfl rfl rfl r ?_) | fail)
    go_ret
    exact Q.out

/-- How many there are, so far. -/
def CatN (n m : Nat) (s i : Value) : Prop := (i = .int .i64 0 ∧ s = .int .i64 0) ∨ (i = .int .i64 1 ∧ s = .int .i64 (n : Int)) ∨ (i = .int .i64 2 ∧ s = .int .i64 ((n + m : Nat) : Int))
/-- What is put together, so far. -/
def CatL (w : World) (a b : List C5) (v i : Value) (wr : World) : Prop := ((i = .int .i64 0 ∧ OwnC wr w.heap.size v []) ∨ (i = .int .i64 1 ∧ OwnC wr w.heap.size v a) ∨ (i = .int .i64 2 ∧ OwnC wr w.heap.size v (a ++ b))) ∧ Below w.heap.size w wr
set_option maxRecDepth 100000 in
set_option maxHeartbeats 4000000 in
theorem concat_any (g : Nat) (av_ bv : Value) (a b : List C5) (w : World) (c0 : w.cell? ⟨g, 0, none⟩ = some av_) (c1 : w.cell? ⟨g, 1, none⟩ = some bv) (ha : RowC w av_ a) (hb : RowC w bv b) (la : a.length ≤ 100) (lb : b.length ≤ 100) :
    Calls Try.prog 42 #[.slice (some ⟨g, 0, none⟩) 2 2] w (CatQ (a ++ b) w) := by
  have HA := Lib.hid ha
  have HB := Lib.hid hb
  have C0 := Lib.hid c0
  have C1 := Lib.hid c1
  have hg : g < w.heap.size := World.block_lt_of_cell? w _ c0
  obtain ⟨ao, ac, rfl⟩ := ha.len
  obtain ⟨bo, bc, rfl⟩ := hb.len
  clear ha hb c0 c1
  go_enter Try.func42, Try.ntmps42
  go_wp2
  go_loop [3, 11] (fun s i => CatN a.length b.length s i) (fun _ i => (2 - intOf i).toNat)
  case atStart => exact Or.inl ⟨rfl, rfl⟩
  case round =>
    rcases hrel with ⟨rfl, rfl⟩ | ⟨rfl, rfl⟩ | ⟨rfl, rfl⟩
    · have c0 := C0.out
      go_wp2
      go_round
      case rel => exact Or.inr (Or.inl ⟨rfl, rfl⟩)
      case measure => simp [intOf]
    · have c1 := C1.out
      go_wp2
      go_round
      case rel => exact Or.inr (Or.inr ⟨rfl, by go_num⟩)
      case measure => simp [intOf]
    · have GR := Lib.hid (grow_any (a.length + b.length) w (by omega))
      go_wp2_with fail
      refine GR.out.mono ?_
      rintro e1 w1 ⟨v1, rfl, ho, hb1⟩
      have O1 := Lib.hid ho
      have B1 := Lib.hid hb1
      clear ho hb1 GR
      go_wp2
      go_loopw [6, 27] (fun v i wr => CatL w a b v i wr) (fun _ i _ => (2 - intOf i).toNat)
      case atStart => exact ⟨Or.inl ⟨rfl, O1.out⟩, B1.out⟩
      case round =>
        obtain ⟨hc, hbw⟩ := hrel
        have BW := Lib.hid hbw
        clear hbw
        rcases hc with ⟨rfl, ho⟩ | ⟨rfl, ho⟩ | ⟨rfl, ho⟩
        · have c0 := (BW.out.cell (p := ⟨g, 0, none⟩) hg).trans C0.out
          obtain ⟨v', w', r, o', gr⟩ := appC w.heap.size ho (HA.out.on BW.out) (by simp) (by omega) BW.out.size
          have B' := Lib.hid (BW.out.grown gr BW.out.size (fun j hj => (ho.lt j hj).1))
          have O' := Lib.hid o'
          clear ho o' gr
          go_wp2_with (first | (at_builtin; refine wpList_append_run rfl _ _ 25 rfl rfl rfl r ?_) | fail)
          go_roundw
          case rel => exact ⟨Or.inr (Or.inl ⟨rfl, O'.out⟩), B'.out⟩
          case measure => simp [intOf]
        · have c1 := (BW.out.cell (p := ⟨g, 1, none⟩) hg).trans C1.out
          obtain ⟨v', w', r, o', gr⟩ := appC w.heap.size ho (HB.out.on BW.out) (by omega) (by omega) BW.out.size
          have B' := Lib.hid (BW.out.grown gr BW.out.size (fun j hj => (ho.lt j hj).1))
          have O' := Lib.hid o'
          clear ho o' gr
          go_wp2_with (first | (at_builtin; refine wpList_append_run rfl _ _ 25 rfl rfl rfl r ?_) | fail)
          go_roundw
          case rel => exact ⟨Or.inr (Or.inr ⟨rfl, O'.out⟩), B'.out⟩
          case measure => simp [intOf]
        · have Q := Lib.hid (show CatQ (a ++ b) w (.returned _) _ from ⟨_, rfl, ho, BW.out⟩)
          clear ho
          go_wp2
          go_ret
          exact Q.out
end Go.Proofs.Ytdomincmoaahoaa.Pr
