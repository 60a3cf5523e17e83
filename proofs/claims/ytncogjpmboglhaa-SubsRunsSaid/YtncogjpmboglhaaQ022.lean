/-
  slices.Insert of one ID into a row of one's own, as package adverts calls it. Condition: at most 900 of them.
  slices.Insert of one advertisement into a row of one's own, as package adverts calls it. Condition: at most 900 of them.
-/
import Derived.Test.YtncogjpmboglhaaQ013
import Derived.Test.YtncogjpmboglhaaQ007
import Derived.Laws.Externs
import Derived.Lib.Hide
import Derived.Lib.QuietBelow
import Derived.BigQuiet
namespace Go.Proofs.Ytncogjpmboglhaa.Av
open Go.RowKit Go.Proofs.Ytncogjpmboglhaa Go.Proofs.Ytncogjpmboglhaa.Rw Go.Proofs.Ytncogjpmboglhaa.Nm Go.Proofs.Ytncogjpmboglhaa.Pr Go.Proofs.Ytncogjpmboglhaa.Bk

theorem row_boxJ {W : World} {b : Nat} {c : XID} (h : Box W b (cellsJ c).toArray 23) : RowJ W (.slice (some ⟨b, 0, none⟩) 1 1) [c] :=
  Or.inr ⟨⟨b, 0, none⟩, 1, rfl, by simp, by decide, box_one h (by simp [EJ])⟩
def InsQJ (B : Nat) (l : List XID) (k : Nat) (c : XID) (vv : Value) (W : World) (e : Ending) (w' : World) : Prop := ∃ v', e = .returned v' ∧ OwnJ w' B v' (l.take k ++ c :: l.drop k) ∧ Below B W w' ∧ (∀ j, j < W.heap.size → some j ≠ vv.ownBlock → w'.heap[j]? = W.heap[j]?)
set_option maxRecDepth 100000 in
set_option maxHeartbeats 4000000 in
theorem insert_endJ (B : Nat) (v : Value) (l : List XID) (c : XID) (b : Nat) (W : World) (ho : OwnJ W B v l) (hx : Box W b (cellsJ c).toArray 23) (hl : l.length ≤ 900) (hB : B ≤ W.heap.size) :
    Calls Try.prog 52 #[v, .int .i64 (l.length : Nat), .slice (some ⟨b, 0, none⟩) 1 1] W (InsQJ B l l.length c v W) := by
  obtain ⟨v', w', hr, ho2, hg⟩ := app_row okJ B ho (row_boxJ hx) (by omega) (by simp) hB 30
  have hr : (Builtin.append_ #[30, 30] 30 #[v, .slice (some ⟨b, 0, none⟩) 1 1]).run Try.prog W = .ok v' w' := hr
  have Q := Lib.hid (show InsQJ B l l.length c v W (.returned v') w' from ⟨v', rfl, by rw [List.take_of_length_le (Nat.le_refl _), List.drop_of_length_le (Nat.le_refl _)]; exact ho2, (Below.refl B W).grown hg hB (fun j hj => (ho.lt j hj).1), fun j hj hne => hg.block j hj hne⟩)
  obtain ⟨sx, hs, _⟩ := row_hi okJ (Row.of_own ho) l.length (Nat.le_refl _)
  have hs : ∀ w, (Instr.sliceAt 30 v (some (.int .i64 l.length)) none none).run Try.prog w = .ok sx w := hs
  obtain ⟨ao, ac, rfl⟩ := (Row.of_own ho).len
  clear ho ho2 hg
  generalize hn : l.length = n at *
  clear hn
  go_enter Try.func52, Try.ntmps52
  go_wp2_with (first | (at_builtin; refine wpList_append_run rfl _ _ 30 rfl rfl rfl hr ?_) | fail)
  go_ret
  exact Q.out

theorem no_overJ (w : World) (g b k la lb cb : Nat) (cur cs : Array Value) (hb : Box w b cs 23) (hg : Box w g cur 23) (hne : b ≠ g) (h0 : 0 < cur.size) : (callFunc 69 #[.slice (some ⟨b, 0, none⟩) la 1, .slice (some ⟨g, k, none⟩) lb cb]).run Try.prog w = .ok (.value (.bool false)) w := by
  rw [run_callFunc_extern Try.func69 (by kernel_rfl) (by kernel_rfl) (by kernel_rfl) (e := Extern.SlicesOverlaps.overlaps #[30, 30] #[4]) (by kernel_rfl),
    Lib.run_overlaps_apart w 30 4 23 Try.underlying30 2 Try.sizeOf23 ⟨b, 0, none⟩ ⟨g, k, none⟩ la 1 lb cb hne 23 23 cs.size cur.size hb.shape hg.shape (by omega) (hb.fr 0) (hb.fr _)]
  rfl
set_option maxRecDepth 100000 in
set_option maxHeartbeats 4000000 in
theorem insert_shiftJ (B g n cap : Nat) (cur : Array Value) (l : List XID) (k : Nat) (c : XID) (b : Nat) (W : World) (hn : n = l.length) (hBg : B ≤ g) (hg : Box W g cur 23) (hcm : cap ≤ maxLen) (hsz : cur.size = cap * 2) (ht : cur.toList.take (n * 2) = flat EJ l) (hx : Box W b (cellsJ c).toArray 23) (hne : b ≠ g) (hk : k < n) (hroom : n + 1 ≤ cap) (hl : n ≤ 900) :
    Calls Try.prog 52 #[.slice (some ⟨g, 0, none⟩) n cap, .int .i64 k, .slice (some ⟨b, 0, none⟩) 1 1] W (InsQJ B l k c (.slice (some ⟨g, 0, none⟩) n cap) W) := by
  obtain ⟨R1, R2, r1, r2, ow⟩ := shift_mid (E := EJ) (l := l) (k := k) (cap := cap) (cur := cur) (cs := (cellsJ c).toArray) (c := c) okJ (by omega) (by omega) hsz (by rw [← hn]; exact ht) g b hne
  have hov := fun lb cb => no_overJ W g b ((k + 1) * 2) 1 lb cb cur (cellsJ c).toArray hx hg hne (by omega)
  have s0 := cut_hi (E := EJ) okJ g k n cap (by omega) (by omega)
  have s1 := slice_lo (E := EJ) okJ ⟨g, 0, none⟩ (n + 1) n cap (by omega)
  have s2 := cut_hi (E := EJ) okJ g (k + 1) (n + 1) cap (by omega) (by omega)
  have s3 := cut_hi (E := EJ) okJ g k (n + 1) cap (by omega) (by omega)
  have q1 := r1 W.drew 3 (n + 1 - (k + 1)) (cap - (k + 1)) (n + 1 - k) (cap - k) hg (by omega)
  have q2 := r2 (W.drew.setRow g R1) 3 (n + 1 - k) (cap - k) (Box.set (show Box W.drew g cur 23 from hg) R1) (Box.other (show Box W.drew b _ 23 from hx) hne R1) rfl (by omega)
  have Q := Lib.hid (show InsQJ B l k c (.slice (some ⟨g, 0, none⟩) n cap) W (.returned (.slice (some ⟨g, 0, none⟩) (n + 1) cap)) ((W.drew.setRow g R1).setRow g R2) from ⟨_, rfl, by rw [hn]; exact ow _ B hBg hcm (Box.set (Box.set (show Box W.drew g cur 23 from hg) R1) R2), below_setRow (below_setRow (Below.refl B W).drew hBg _) hBg _, fun j hj hne => (setRow_other _ g j _ (fun e => hne (by rw [e]; rfl))).trans (setRow_other _ g j _ (fun e => hne (by rw [e]; rfl)))⟩)
  clear r1 r2 ow hg ht hx hsz hBg hcm
  change ∀ w, (Instr.sliceAt 30 (.slice (some ⟨g, 0, none⟩) n cap) (some (.int .i64 k)) none none).run Try.prog w = .ok (.slice (some ⟨g, k * 2, none⟩) (n - k) (cap - k)) w at s0
  change ∀ w, (Instr.sliceAt 30 (.slice (some ⟨g, 0, none⟩) n cap) none (some (.int .i64 ((n : Int) + 1))) none).run Try.prog w = .ok (.slice (some ⟨g, 0, none⟩) (n + 1) cap) w at s1
  change ∀ w, (Instr.sliceAt 30 (.slice (some ⟨g, 0, none⟩) (n + 1) cap) (some (.int .i64 ((k : Int) + 1))) none none).run Try.prog w = .ok (.slice (some ⟨g, (k + 1) * 2, none⟩) (n + 1 - (k + 1)) (cap - (k + 1))) w at s2
  change ∀ w, (Instr.sliceAt 30 (.slice (some ⟨g, 0, none⟩) (n + 1) cap) (some (.int .i64 k)) none none).run Try.prog w = .ok (.slice (some ⟨g, k * 2, none⟩) (n + 1 - k) (cap - k)) w at s3
  have e1 : ((k : Int) == (n : Int)) = false := by rw [beq_eq_false_iff_ne]; omega
  have e2 : decide ((cap : Int) < (n : Int) + 1) = false := by simp; omega
  change (Builtin.copy_ #[30, 30] 3 #[.slice (some ⟨g, (k + 1) * 2, none⟩) (n + 1 - (k + 1)) (cap - (k + 1)), .slice (some ⟨g, k * 2, none⟩) (n + 1 - k) (cap - k)]).run Try.prog W.drew = .ok (.int .i64 ((l.length - k : Nat) : Int)) (W.drew.setRow g R1) at q1
  change (Builtin.copy_ #[30, 30] 3 #[.slice (some ⟨g, k * 2, none⟩) (n + 1 - k) (cap - k), .slice (some ⟨b, 0, none⟩) 1 1]).run Try.prog (W.drew.setRow g R1) = .ok (.int .i64 1) ((W.drew.setRow g R1).setRow g R2) at q2
  clear hn
  go_enter Try.func52, Try.ntmps52
  go_wp2_with (first | (simp only [hov]) | fail)
  clear hov s0 s1 s2 s3
  have hw1 : IntKind.i64.wrap ((k : Int) + 1) = (k : Int) + 1 := by rw [IntKind.wrap_i64]; omega
  have hb1 : (0 : Int) ≤ (k : Int) + 1 := by omega
  have hb0 : (k : Int) + 1 ≤ (n : Int) + 1 := by omega
  have htn : ((k : Int) + 1).toNat = k + 1 := by omega
  have hb2 : ¬ (cap = k + 1) := by omega
  have hb3 : (k : Int) ≤ (n : Int) + 1 := by omega
  have hb4 : ¬ (cap = k) := by omega
  have h81 : n + 1 - (k + 1) = n - k := by omega
  rw [h81] at q1
  clear h81
  go_region_law (refine step_copy_run rfl (.tmp 73) (.tmp 76) 30 rfl (v := .slice (some ⟨g, (k + 1) * 2, none⟩) (n - k) (cap - (k + 1))) (xv := .slice (some ⟨g, k * 2, none⟩) (n + 1 - k) (cap - k)) (by simp [Act.eval, Act.put]) (by simp [Act.eval, Act.put]) q1 ?_)
  all_goals simp only [Exit.then]
  all_goals apply_assumption
  clear q1 hw1 hb1 hb0 htn hb2 hb3 hb4
  have s3 := cut_hi (E := EJ) okJ g k (n + 1) cap (by omega) (by omega)
  change ∀ w, (Instr.sliceAt 30 (.slice (some ⟨g, 0, none⟩) (n + 1) cap) (some (.int .i64 k)) none none).run Try.prog w = .ok (.slice (some ⟨g, k * 2, none⟩) (n + 1 - k) (cap - k)) w at s3
  go_wp2_with (first | (at_builtin; refine wpList_copy_run rfl _ _ 30 rfl rfl rfl q2 ?_) | fail)
  go_ret
  exact Q.out
set_option maxRecDepth 100000 in
set_option maxHeartbeats 4000000 in
theorem insert_growJ (B g n cap : Nat) (cur : Array Value) (l : List XID) (k : Nat) (c : XID) (b : Nat) (W : World) (hn : n = l.length) (hg : Box W g cur 23) (hcm : cap ≤ maxLen) (hnc : n ≤ cap) (ht : cur.toList.take (n * 2) = flat EJ l) (hx : Box W b (cellsJ c).toArray 23) (hk : k < n) (hroom : cap < n + 1) (hl : n ≤ 900) (hB : B ≤ W.heap.size) :
    Calls Try.prog 52 #[.slice (some ⟨g, 0, none⟩) n cap, .int .i64 k, .slice (some ⟨b, 0, none⟩) 1 1] W (InsQJ B l k c (.slice (some ⟨g, 0, none⟩) n cap) W) := by
  have hgw := hg.lt
  have hbw := hx.lt
  obtain ⟨G, R1, R2, R3, hG1, hG2, r1, r2, r3, ow⟩ := grow_mid (E := EJ) (l := l) (k := k) (cap := cap) (cur := cur) (cs := (cellsJ c).toArray) (c := c) okJ 3 Try.underlying3 (by omega) (by omega) (by omega) (by omega) (by rw [← hn]; exact ht) W g b hg hbw
  unfold maxLen at hcm hG2
  have s0 := cut_hi (E := EJ) okJ g k n cap (by omega) (by omega)
  have s1 := slice_lo (E := EJ) okJ ⟨g, 0, none⟩ k n cap (by omega)
  have s2 := cut_hi (E := EJ) okJ W.heap.size k (n + 1) G (by omega) (by omega)
  have s3 := cut_hi (E := EJ) okJ W.heap.size (k + 1) (n + 1) G (by omega) (by omega)
  have a1 := r1 30
  have n1 := box_new W.drew R1 23
  have bl : W.drew.heap.size = W.heap.size := rfl
  rw [bl] at n1
  have g1 : Box (W.drew.alloc (.cells R1 23)) g cur 23 := Box.more (show Box W.drew g cur 23 from hg) _
  have x1 : Box (W.drew.alloc (.cells R1 23)) b (cellsJ c).toArray 23 := Box.more (show Box W.drew b _ 23 from hx) _
  have q2 := r2 (W.drew.alloc (.cells R1 23)) 3 (n + 1 - k) (G - k) n1 x1 rfl (by omega)
  have q3 := r3 ((W.drew.alloc (.cells R1 23)).setRow W.heap.size R2).drew 3 (n + 1 - (k + 1)) (G - (k + 1)) (n - k) (cap - k) (Box.set n1 R2) (Box.other g1 (by omega) R2) (by omega)
  have Q := Lib.hid (show InsQJ B l k c (.slice (some ⟨g, 0, none⟩) n cap) W (.returned (.slice (some ⟨W.heap.size, 0, none⟩) (n + 1) G)) (((W.drew.alloc (.cells R1 23)).setRow W.heap.size R2).drew.setRow W.heap.size R3) from ⟨_, rfl, by rw [hn]; exact ow _ B hB (Box.set (Box.set n1 R2) R3), below_setRow (below_setRow ((Below.refl B W).drew.alloc hB _) hB _).drew hB _, fun j hj _ => (setRow_other _ W.heap.size j _ (by omega)).trans ((setRow_other _ W.heap.size j _ (by omega)).trans (Array.getElem?_push_lt hj |>.trans (Array.getElem?_eq_getElem hj).symm))⟩)
  have l1 : l.length + 1 = n + 1 := by rw [hn]
  rw [l1, ← hn] at a1
  clear r1 r2 r3 ow hg ht hx g1 x1 n1 bl l1
  change ∀ w, (Instr.sliceAt 30 (.slice (some ⟨g, 0, none⟩) n cap) (some (.int .i64 k)) none none).run Try.prog w = .ok (.slice (some ⟨g, k * 2, none⟩) (n - k) (cap - k)) w at s0
  change ∀ w, (Instr.sliceAt 30 (.slice (some ⟨g, 0, none⟩) n cap) none (some (.int .i64 k)) none).run Try.prog w = .ok (.slice (some ⟨g, 0, none⟩) k cap) w at s1
  change ∀ w, (Instr.sliceAt 30 (.slice (some ⟨W.heap.size, 0, none⟩) (n + 1) G) (some (.int .i64 k)) none none).run Try.prog w = .ok (.slice (some ⟨W.heap.size, k * 2, none⟩) (n + 1 - k) (G - k)) w at s2
  change ∀ w, (Instr.sliceAt 30 (.slice (some ⟨W.heap.size, 0, none⟩) (n + 1) G) (some (.int .i64 ((k : Int) + 1))) none none).run Try.prog w = .ok (.slice (some ⟨W.heap.size, (k + 1) * 2, none⟩) (n + 1 - (k + 1)) (G - (k + 1))) w at s3
  change (Builtin.append_ #[30, 3] 30 #[.slice (some ⟨g, 0, none⟩) k cap, .int .i64 ((n : Int) + 1 - k)]).run Try.prog W = .ok (.slice (some ⟨W.heap.size, 0, none⟩) (n + 1) G) (W.drew.alloc (.cells R1 23)) at a1
  change (Builtin.copy_ #[30, 30] 3 #[.slice (some ⟨W.heap.size, k * 2, none⟩) (n + 1 - k) (G - k), .slice (some ⟨b, 0, none⟩) 1 1]).run Try.prog (W.drew.alloc (.cells R1 23)) = .ok (.int .i64 1) ((W.drew.alloc (.cells R1 23)).setRow W.heap.size R2) at q2
  change (Builtin.copy_ #[30, 30] 3 #[.slice (some ⟨W.heap.size, (k + 1) * 2, none⟩) (n + 1 - (k + 1)) (G - (k + 1)), .slice (some ⟨g, k * 2, none⟩) (n - k) (cap - k)]).run Try.prog ((W.drew.alloc (.cells R1 23)).setRow W.heap.size R2).drew = .ok (.int .i64 ((l.length - k : Nat) : Int)) (((W.drew.alloc (.cells R1 23)).setRow W.heap.size R2).drew.setRow W.heap.size R3) at q3
  have e1 : ((k : Int) == (n : Int)) = false := by rw [beq_eq_false_iff_ne]; omega
  have e2 : decide ((cap : Int) < (n : Int) + 1) = true := by simp; omega
  have hGn : n + 1 ≤ G := by omega
  clear hn
  generalize W.heap.size = N at *
  generalize W.drew.alloc (.cells R1 23) = W1 at *
  generalize W1.setRow N R2 = W2 at *
  go_enter Try.func52, Try.ntmps52
  go_wp2_with (first | (at_builtin; refine wpList_append_run2 rfl _ _ 30 3 rfl rfl rfl a1 ?_) | (at_builtin; refine wpList_copy_run rfl _ _ 30 rfl rfl rfl q2 ?_) | fail)
  clear a1 q2 s0 s1 s2 s3
  have hw1 : IntKind.i64.wrap ((k : Int) + 1) = (k : Int) + 1 := by rw [IntKind.wrap_i64]; omega
  have hb1 : (0 : Int) ≤ (k : Int) + 1 := by omega
  have hb0 : (k : Int) + 1 ≤ (n : Int) + 1 := by omega
  have htn : ((k : Int) + 1).toNat = k + 1 := by omega
  have hb2 : ¬ (G = k + 1) := by omega
  have hb3 : (k : Int) ≤ (n : Int) := by omega
  have hb4 : ¬ (cap = k) := by omega
  have h81 : n + 1 - (k + 1) = n - k := by omega
  rw [h81] at q3
  clear h81
  go_region_law (refine step_copy_run rfl (.tmp 50) (.tmp 53) 30 rfl (v := .slice (some ⟨N, (k + 1) * 2, none⟩) (n - k) (G - (k + 1))) (xv := .slice (some ⟨g, k * 2, none⟩) (n - k) (cap - k)) (by simp [Act.eval, Act.put]) (by simp [Act.eval, Act.put]) q3 ?_)
  all_goals simp only [Exit.then]
  all_goals apply_assumption
  go_wp2
  go_ret
  exact Q.out
theorem insert_anyJ (B : Nat) (v : Value) (l : List XID) (k : Nat) (c : XID) (b : Nat) (W : World) (ho : OwnJ W B v l) (hx : Box W b (cellsJ c).toArray 23) (hne : v.ownBlock ≠ some b) (hk : k ≤ l.length) (hl : l.length ≤ 900) (hB : B ≤ W.heap.size) :
    Calls Try.prog 52 #[v, .int .i64 k, .slice (some ⟨b, 0, none⟩) 1 1] W (InsQJ B l k c v W) := by
  rcases Nat.lt_or_ge k l.length with h | h
  · rcases own_open ho with ⟨_, h2⟩ | ⟨g, cap, cur, rfl, h1, h2, h3, h4, h5, h6⟩
    · rw [h2] at h; simp at h
    · rcases Nat.lt_or_ge cap (l.length + 1) with h7 | h7
      · exact insert_growJ B g _ cap cur l k c b W rfl h2 h4 h3 h6 hx h h7 hl hB
      · exact insert_shiftJ B g _ cap cur l k c b W rfl h1 h2 h4 h5 h6 hx (fun e => hne (by simp [Value.ownBlock, e])) h h7 hl
  · obtain rfl : k = l.length := by omega
    exact insert_endJ B v l c b W ho hx hl hB
end Go.Proofs.Ytncogjpmboglhaa.Av

namespace Go.Proofs.Ytncogjpmboglhaa.Av
open Go.RowKit Go.Proofs.Ytncogjpmboglhaa Go.Proofs.Ytncogjpmboglhaa.Rw Go.Proofs.Ytncogjpmboglhaa.Nm Go.Proofs.Ytncogjpmboglhaa.Pr Go.Proofs.Ytncogjpmboglhaa.Bk

theorem row_boxD {W : World} {b : Nat} {c : XAd} (h : Box W b (cellsD c).toArray 39) : RowD W (.slice (some ⟨b, 0, none⟩) 1 1) [c] :=
  Or.inr ⟨⟨b, 0, none⟩, 1, rfl, by simp, by decide, box_one h (by simp [ED])⟩
def InsQD (B : Nat) (l : List XAd) (k : Nat) (c : XAd) (vv : Value) (W : World) (e : Ending) (w' : World) : Prop := ∃ v', e = .returned v' ∧ OwnD w' B v' (l.take k ++ c :: l.drop k) ∧ Below B W w' ∧ (∀ j, j < W.heap.size → some j ≠ vv.ownBlock → w'.heap[j]? = W.heap[j]?)
set_option maxRecDepth 100000 in
set_option maxHeartbeats 4000000 in
theorem insert_endD (B : Nat) (v : Value) (l : List XAd) (c : XAd) (b : Nat) (W : World) (ho : OwnD W B v l) (hx : Box W b (cellsD c).toArray 39) (hl : l.length ≤ 900) (hB : B ≤ W.heap.size) :
    Calls Try.prog 50 #[v, .int .i64 (l.length : Nat), .slice (some ⟨b, 0, none⟩) 1 1] W (InsQD B l l.length c v W) := by
  obtain ⟨v', w', hr, ho2, hg⟩ := app_row okD B ho (row_boxD hx) (by omega) (by simp) hB 29
  have hr : (Builtin.append_ #[29, 29] 29 #[v, .slice (some ⟨b, 0, none⟩) 1 1]).run Try.prog W = .ok v' w' := hr
  have Q := Lib.hid (show InsQD B l l.length c v W (.returned v') w' from ⟨v', rfl, by rw [List.take_of_length_le (Nat.le_refl _), List.drop_of_length_le (Nat.le_refl _)]; exact ho2, (Below.refl B W).grown hg hB (fun j hj => (ho.lt j hj).1), fun j hj hne => hg.block j hj hne⟩)
  obtain ⟨sx, hs, _⟩ := row_hi okD (Row.of_own ho) l.length (Nat.le_refl _)
  have hs : ∀ w, (Instr.sliceAt 29 v (some (.int .i64 l.length)) none none).run Try.prog w = .ok sx w := hs
  obtain ⟨ao, ac, rfl⟩ := (Row.of_own ho).len
  clear ho ho2 hg
  generalize hn : l.length = n at *
  clear hn
  go_enter Try.func50, Try.ntmps50
  go_wp2_with (first | (at_builtin; refine wpList_append_run rfl _ _ 29 rfl rfl rfl hr ?_) | fail)
  go_ret
  exact Q.out

theorem no_overD (w : World) (g b k la lb cb : Nat) (cur cs : Array Value) (hb : Box w b cs 39) (hg : Box w g cur 39) (hne : b ≠ g) (h0 : 0 < cur.size) : (callFunc 67 #[.slice (some ⟨b, 0, none⟩) la 1, .slice (some ⟨g, k, none⟩) lb cb]).run Try.prog w = .ok (.value (.bool false)) w := by
  rw [run_callFunc_extern Try.func67 (by kernel_rfl) (by kernel_rfl) (by kernel_rfl) (e := Extern.SlicesOverlaps.overlaps #[29, 29] #[4]) (by kernel_rfl),
    Lib.run_overlaps_apart w 29 4 39 Try.underlying29 4 Try.sizeOf39 ⟨b, 0, none⟩ ⟨g, k, none⟩ la 1 lb cb hne 39 39 cs.size cur.size hb.shape hg.shape (by omega) (hb.fr 0) (hb.fr _)]
  rfl
set_option maxRecDepth 100000 in
set_option maxHeartbeats 4000000 in
theorem insert_shiftD (B g n cap : Nat) (cur : Array Value) (l : List XAd) (k : Nat) (c : XAd) (b : Nat) (W : World) (hn : n = l.length) (hBg : B ≤ g) (hg : Box W g cur 39) (hcm : cap ≤ maxLen) (hsz : cur.size = cap * 4) (ht : cur.toList.take (n * 4) = flat ED l) (hx : Box W b (cellsD c).toArray 39) (hne : b ≠ g) (hk : k < n) (hroom : n + 1 ≤ cap) (hl : n ≤ 900) :
    Calls Try.prog 50 #[.slice (some ⟨g, 0, none⟩) n cap, .int .i64 k, .slice (some ⟨b, 0, none⟩) 1 1] W (InsQD B l k c (.slice (some ⟨g, 0, none⟩) n cap) W) := by
  obtain ⟨R1, R2, r1, r2, ow⟩ := shift_mid (E := ED) (l := l) (k := k) (cap := cap) (cur := cur) (cs := (cellsD c).toArray) (c := c) okD (by omega) (by omega) hsz (by rw [← hn]; exact ht) g b hne
  have hov := fun lb cb => no_overD W g b ((k + 1) * 4) 1 lb cb cur (cellsD c).toArray hx hg hne (by omega)
  have s0 := cut_hi (E := ED) okD g k n cap (by omega) (by omega)
  have s1 := slice_lo (E := ED) okD ⟨g, 0, none⟩ (n + 1) n cap (by omega)
  have s2 := cut_hi (E := ED) okD g (k + 1) (n + 1) cap (by omega) (by omega)
  have s3 := cut_hi (E := ED) okD g k (n + 1) cap (by omega) (by omega)
  have q1 := r1 W.drew 3 (n + 1 - (k + 1)) (cap - (k + 1)) (n + 1 - k) (cap - k) hg (by omega)
  have q2 := r2 (W.drew.setRow g R1) 3 (n + 1 - k) (cap - k) (Box.set (show Box W.drew g cur 39 from hg) R1) (Box.other (show Box W.drew b _ 39 from hx) hne R1) rfl (by omega)
  have Q := Lib.hid (show InsQD B l k c (.slice (some ⟨g, 0, none⟩) n cap) W (.returned (.slice (some ⟨g, 0, none⟩) (n + 1) cap)) ((W.drew.setRow g R1).setRow g R2) from ⟨_, rfl, by rw [hn]; exact ow _ B hBg hcm (Box.set (Box.set (show Box W.drew g cur 39 from hg) R1) R2), below_setRow (below_setRow (Below.refl B W).drew hBg _) hBg _, fun j hj hne => (setRow_other _ g j _ (fun e => hne (by rw [e]; rfl))).trans (setRow_other _ g j _ (fun e => hne (by rw [e]; rfl)))⟩)
  clear r1 r2 ow hg ht hx hsz hBg hcm
  change ∀ w, (Instr.sliceAt 29 (.slice (some ⟨g, 0, none⟩) n cap) (some (.int .i64 k)) none none).run Try.prog w = .ok (.slice (some ⟨g, k * 4, none⟩) (n - k) (cap - k)) w at s0
  change ∀ w, (Instr.sliceAt 29 (.slice (some ⟨g, 0, none⟩) n cap) none (some (.int .i64 ((n : Int) + 1))) none).run Try.prog w = .ok (.slice (some ⟨g, 0, none⟩) (n + 1) cap) w at s1
  change ∀ w, (Instr.sliceAt 29 (.slice (some ⟨g, 0, none⟩) (n + 1) cap) (some (.int .i64 ((k : Int) + 1))) none none).run Try.prog w = .ok (.slice (some ⟨g, (k + 1) * 4, none⟩) (n + 1 - (k + 1)) (cap - (k + 1))) w at s2
  change ∀ w, (Instr.sliceAt 29 (.slice (some ⟨g, 0, none⟩) (n + 1) cap) (some (.int .i64 k)) none none).run Try.prog w = .ok (.slice (some ⟨g, k * 4, none⟩) (n + 1 - k) (cap - k)) w at s3
  have e1 : ((k : Int) == (n : Int)) = false := by rw [beq_eq_false_iff_ne]; omega
  have e2 : decide ((cap : Int) < (n : Int) + 1) = false := by simp; omega
  change (Builtin.copy_ #[29, 29] 3 #[.slice (some ⟨g, (k + 1) * 4, none⟩) (n + 1 - (k + 1)) (cap - (k + 1)), .slice (some ⟨g, k * 4, none⟩) (n + 1 - k) (cap - k)]).run Try.prog W.drew = .ok (.int .i64 ((l.length - k : Nat) : Int)) (W.drew.setRow g R1) at q1
  change (Builtin.copy_ #[29, 29] 3 #[.slice (some ⟨g, k * 4, none⟩) (n + 1 - k) (cap - k), .slice (some ⟨b, 0, none⟩) 1 1]).run Try.prog (W.drew.setRow g R1) = .ok (.int .i64 1) ((W.drew.setRow g R1).setRow g R2) at q2
  clear hn
  go_enter Try.func50, Try.ntmps50
  go_wp2_with (first | (simp only [hov]) | fail)
  clear hov s0 s1 s2 s3
  have hw1 : IntKind.i64.wrap ((k : Int) + 1) = (k : Int) + 1 := by rw [IntKind.wrap_i64]; omega
  have hb1 : (0 : Int) ≤ (k : Int) + 1 := by omega
  have hb0 : (k : Int) + 1 ≤ (n : Int) + 1 := by omega
  have htn : ((k : Int) + 1).toNat = k + 1 := by omega
  have hb2 : ¬ (cap = k + 1) := by omega
  have hb3 : (k : Int) ≤ (n : Int) + 1 := by omega
  have hb4 : ¬ (cap = k) := by omega
  have h81 : n + 1 - (k + 1) = n - k := by omega
  rw [h81] at q1
  clear h81
  go_region_law (refine step_copy_run rfl (.tmp 73) (.tmp 76) 29 rfl (v := .slice (some ⟨g, (k + 1) * 4, none⟩) (n - k) (cap - (k + 1))) (xv := .slice (some ⟨g, k * 4, none⟩) (n + 1 - k) (cap - k)) (by simp [Act.eval, Act.put]) (by simp [Act.eval, Act.put]) q1 ?_)
  all_goals simp only [Exit.then]
  all_goals apply_assumption
  clear q1 hw1 hb1 hb0 htn hb2 hb3 hb4
  have s3 := cut_hi (E := ED) okD g k (n + 1) cap (by omega) (by omega)
  change ∀ w, (Instr.sliceAt 29 (.slice (some ⟨g, 0, none⟩) (n + 1) cap) (some (.int .i64 k)) none none).run Try.prog w = .ok (.slice (some ⟨g, k * 4, none⟩) (n + 1 - k) (cap - k)) w at s3
  go_wp2_with (first | (at_builtin; refine wpList_copy_run rfl _ _ 29 rfl rfl rfl q2 ?_) | fail)
  go_ret
  exact Q.out
set_option maxRecDepth 100000 in
set_option maxHeartbeats 4000000 in
theorem insert_growD (B g n cap : Nat) (cur : Array Value) (l : List XAd) (k : Nat) (c : XAd) (b : Nat) (W : World) (hn : n = l.length) (hg : Box W g cur 39) (hcm : cap ≤ maxLen) (hnc : n ≤ cap) (ht : cur.toList.take (n * 4) = flat ED l) (hx : Box W b (cellsD c).toArray 39) (hk : k < n) (hroom : cap < n + 1) (hl : n ≤ 900) (hB : B ≤ W.heap.size) :
    Calls Try.prog 50 #[.slice (some ⟨g, 0, none⟩) n cap, .int .i64 k, .slice (some ⟨b, 0, none⟩) 1 1] W (InsQD B l k c (.slice (some ⟨g, 0, none⟩) n cap) W) := by
  have hgw := hg.lt
  have hbw := hx.lt
  obtain ⟨G, R1, R2, R3, hG1, hG2, r1, r2, r3, ow⟩ := grow_mid (E := ED) (l := l) (k := k) (cap := cap) (cur := cur) (cs := (cellsD c).toArray) (c := c) okD 3 Try.underlying3 (by omega) (by omega) (by omega) (by omega) (by rw [← hn]; exact ht) W g b hg hbw
  unfold maxLen at hcm hG2
  have s0 := cut_hi (E := ED) okD g k n cap (by omega) (by omega)
  have s1 := slice_lo (E := ED) okD ⟨g, 0, none⟩ k n cap (by omega)
  have s2 := cut_hi (E := ED) okD W.heap.size k (n + 1) G (by omega) (by omega)
  have s3 := cut_hi (E := ED) okD W.heap.size (k + 1) (n + 1) G (by omega) (by omega)
  have a1 := r1 29
  have n1 := box_new W.drew R1 39
  have bl : W.drew.heap.size = W.heap.size := rfl
  rw [bl] at n1
  have g1 : Box (W.drew.alloc (.cells R1 39)) g cur 39 := Box.more (show Box W.drew g cur 39 from hg) _
  have x1 : Box (W.drew.alloc (.cells R1 39)) b (cellsD c).toArray 39 := Box.more (show Box W.drew b _ 39 from hx) _
  have q2 := r2 (W.drew.alloc (.cells R1 39)) 3 (n + 1 - k) (G - k) n1 x1 rfl (by omega)
  have q3 := r3 ((W.drew.alloc (.cells R1 39)).setRow W.heap.size R2).drew 3 (n + 1 - (k + 1)) (G - (k + 1)) (n - k) (cap - k) (Box.set n1 R2) (Box.other g1 (by omega) R2) (by omega)
  have Q := Lib.hid (show InsQD B l k c (.slice (some ⟨g, 0, none⟩) n cap) W (.returned (.slice (some ⟨W.heap.size, 0, none⟩) (n + 1) G)) (((W.drew.alloc (.cells R1 39)).setRow W.heap.size R2).drew.setRow W.heap.size R3) from ⟨_, rfl, by rw [hn]; exact ow _ B hB (Box.set (Box.set n1 R2) R3), below_setRow (below_setRow ((Below.refl B W).drew.alloc hB _) hB _).drew hB _, fun j hj _ => (setRow_other _ W.heap.size j _ (by omega)).trans ((setRow_other _ W.heap.size j _ (by omega)).trans (Array.getElem?_push_lt hj |>.trans (Array.getElem?_eq_getElem hj).symm))⟩)
  have l1 : l.length + 1 = n + 1 := by rw [hn]
  rw [l1, ← hn] at a1
  clear r1 r2 r3 ow hg ht hx g1 x1 n1 bl l1
  change ∀ w, (Instr.sliceAt 29 (.slice (some ⟨g, 0, none⟩) n cap) (some (.int .i64 k)) none none).run Try.prog w = .ok (.slice (some ⟨g, k * 4, none⟩) (n - k) (cap - k)) w at s0
  change ∀ w, (Instr.sliceAt 29 (.slice (some ⟨g, 0, none⟩) n cap) none (some (.int .i64 k)) none).run Try.prog w = .ok (.slice (some ⟨g, 0, none⟩) k cap) w at s1
  change ∀ w, (Instr.sliceAt 29 (.slice (some ⟨W.heap.size, 0, none⟩) (n + 1) G) (some (.int .i64 k)) none none).run Try.prog w = .ok (.slice (some ⟨W.heap.size, k * 4, none⟩) (n + 1 - k) (G - k)) w at s2
  change ∀ w, (Instr.sliceAt 29 (.slice (some ⟨W.heap.size, 0, none⟩) (n + 1) G) (some (.int .i64 ((k : Int) + 1))) none none).run Try.prog w = .ok (.slice (some ⟨W.heap.size, (k + 1) * 4, none⟩) (n + 1 - (k + 1)) (G - (k + 1))) w at s3
  change (Builtin.append_ #[29, 3] 29 #[.slice (some ⟨g, 0, none⟩) k cap, .int .i64 ((n : Int) + 1 - k)]).run Try.prog W = .ok (.slice (some ⟨W.heap.size, 0, none⟩) (n + 1) G) (W.drew.alloc (.cells R1 39)) at a1
  change (Builtin.copy_ #[29, 29] 3 #[.slice (some ⟨W.heap.size, k * 4, none⟩) (n + 1 - k) (G - k), .slice (some ⟨b, 0, none⟩) 1 1]).run Try.prog (W.drew.alloc (.cells R1 39)) = .ok (.int .i64 1) ((W.drew.alloc (.cells R1 39)).setRow W.heap.size R2) at q2
  change (Builtin.copy_ #[29, 29] 3 #[.slice (some ⟨W.heap.size, (k + 1) * 4, none⟩) (n + 1 - (k + 1)) (G - (k + 1)), .slice (some ⟨g, k * 4, none⟩) (n - k) (cap - k)]).run Try.prog ((W.drew.alloc (.cells R1 39)).setRow W.heap.size R2).drew = .ok (.int .i64 ((l.length - k : Nat) : Int)) (((W.drew.alloc (.cells R1 39)).setRow W.heap.size R2).drew.setRow W.heap.size R3) at q3
  have e1 : ((k : Int) == (n : Int)) = false := by rw [beq_eq_false_iff_ne]; omega
  have e2 : decide ((cap : Int) < (n : Int) + 1) = true := by simp; omega
  have hGn : n + 1 ≤ G := by omega
  clear hn
  generalize W.heap.size = N at *
  generalize W.drew.alloc (.cells R1 39) = W1 at *
  generalize W1.setRow N R2 = W2 at *
  go_enter Try.func50, Try.ntmps50
  go_wp2_with (first | (at_builtin; refine wpList_append_run2 rfl _ _ 29 3 rfl rfl rfl a1 ?_) | (at_builtin; refine wpList_copy_run rfl _ _ 29 rfl rfl rfl q2 ?_) | fail)
  clear a1 q2 s0 s1 s2 s3
  have hw1 : IntKind.i64.wrap ((k : Int) + 1) = (k : Int) + 1 := by rw [IntKind.wrap_i64]; omega
  have hb1 : (0 : Int) ≤ (k : Int) + 1 := by omega
  have hb0 : (k : Int) + 1 ≤ (n : Int) + 1 := by omega
  have htn : ((k : Int) + 1).toNat = k + 1 := by omega
  have hb2 : ¬ (G = k + 1) := by omega
  have hb3 : (k : Int) ≤ (n : Int) := by omega
  have hb4 : ¬ (cap = k) := by omega
  have h81 : n + 1 - (k + 1) = n - k := by omega
  rw [h81] at q3
  clear h81
  go_region_law (refine step_copy_run rfl (.tmp 50) (.tmp 53) 29 rfl (v := .slice (some ⟨N, (k + 1) * 4, none⟩) (n - k) (G - (k + 1))) (xv := .slice (some ⟨g, k * 4, none⟩) (n - k) (cap - k)) (by simp [Act.eval, Act.put]) (by simp [Act.eval, Act.put]) q3 ?_)
  all_goals simp only [Exit.then]
  all_goals apply_assumption
  go_wp2
  go_ret
  exact Q.out
theorem insert_anyD (B : Nat) (v : Value) (l : List XAd) (k : Nat) (c : XAd) (b : Nat) (W : World) (ho : OwnD W B v l) (hx : Box W b (cellsD c).toArray 39) (hne : v.ownBlock ≠ some b) (hk : k ≤ l.length) (hl : l.length ≤ 900) (hB : B ≤ W.heap.size) :
    Calls Try.prog 50 #[v, .int .i64 k, .slice (some ⟨b, 0, none⟩) 1 1] W (InsQD B l k c v W) := by
  rcases Nat.lt_or_ge k l.length with h | h
  · rcases own_open ho with ⟨_, h2⟩ | ⟨g, cap, cur, rfl, h1, h2, h3, h4, h5, h6⟩
    · rw [h2] at h; simp at h
    · rcases Nat.lt_or_ge cap (l.length + 1) with h7 | h7
      · exact insert_growD B g _ cap cur l k c b W rfl h2 h4 h3 h6 hx h h7 hl hB
      · exact insert_shiftD B g _ cap cur l k c b W rfl h1 h2 h4 h5 h6 hx (fun e => hne (by simp [Value.ownBlock, e])) h h7 hl
  · obtain rfl : k = l.length := by omega
    exact insert_endD B v l c b W ho hx hl hB
end Go.Proofs.Ytncogjpmboglhaa.Av
