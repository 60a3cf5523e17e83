/-
  slices.Insert of one advertisement into a row of one's own, as package adverts calls it. Condition: at most 900 of them.
  put of package adverts: an ID, an advertisement in its place. Conditions: the row is one's own and rises; at most 900 of them.
  What stays when a row of one's own is turned; a broker with one advertisement, one ID more. No program's function in it.
-/
import Derived.Test.YtonoadjmglkhaaaGreatV008
import Derived.Laws.Externs
import Derived.Lib.Hide
import Derived.Lib.QuietBelow
import Derived.BigQuiet
import Derived.Test.YtonoadjmglkhaaaGreatV017
import Derived.Test.YtonoadjmglkhaaaGreatV015
namespace Go.Proofs.YtonoadjmglkhaaaGreat.Av
open Go.RowKit Go.Proofs.YtonoadjmglkhaaaGreat Go.Proofs.YtonoadjmglkhaaaGreat.Rw Go.Proofs.YtonoadjmglkhaaaGreat.Nm Go.Proofs.YtonoadjmglkhaaaGreat.Pr Go.Proofs.YtonoadjmglkhaaaGreat.Bk

theorem row_boxD {W : World} {b : Nat} {c : XAd} (h : Box W b (cellsD c).toArray 42) : RowD W (.slice (some ⟨b, 0, none⟩) 1 1) [c] :=
  Or.inr ⟨⟨b, 0, none⟩, 1, rfl, by simp, by decide, box_one h (by simp [ED])⟩
def InsQD (B : Nat) (l : List XAd) (k : Nat) (c : XAd) (vv : Value) (W : World) (e : Ending) (w' : World) : Prop := ∃ v', e = .returned v' ∧ OwnD w' B v' (l.take k ++ c :: l.drop k) ∧ Below B W w' ∧ (∀ j, j < W.heap.size → some j ≠ vv.ownBlock → w'.heap[j]? = W.heap[j]?)
set_option maxRecDepth 100000 in
set_option maxHeartbeats 4000000 in
theorem insert_endD (B : Nat) (v : Value) (l : List XAd) (c : XAd) (b : Nat) (W : World) (ho : OwnD W B v l) (hx : Box W b (cellsD c).toArray 42) (hl : l.length ≤ 900) (hB : B ≤ W.heap.size) :
    Calls Tryz.prog 85 #[v, .int .i64 (l.length : Nat), .slice (some ⟨b, 0, none⟩) 1 1] W (InsQD B l l.length c v W) := by
  obtain ⟨v', w', hr, ho2, hg⟩ := app_row okD B ho (row_boxD hx) (by omega) (by simp) hB 24
  have hr : (Builtin.append_ #[24, 24] 24 #[v, .slice (some ⟨b, 0, none⟩) 1 1]).run Tryz.prog W = .ok v' w' := hr
  have Q := Lib.hid (show InsQD B l l.length c v W (.returned v') w' from ⟨v', rfl, by rw [List.take_of_length_le (Nat.le_refl _), List.drop_of_length_le (Nat.le_refl _)]; exact ho2, (Below.refl B W).grown hg hB (fun j hj => (ho.lt j hj).1), fun j hj hne => hg.block j hj hne⟩)
  obtain ⟨sx, hs, _⟩ := row_hi okD (Row.of_own ho) l.length (Nat.le_refl _)
  have hs : ∀ w, (Instr.sliceAt 24 v (some (.int .i64 l.length)) none none).run Tryz.prog w = .ok sx w := hs
  obtain ⟨ao, ac, rfl⟩ := (Row.of_own ho).len
  clear ho ho2 hg
  generalize hn : l.length = n at *
  clear hn
  go_enter Tryz.func85, Tryz.ntmps85
  go_wp2_with (first | (at_builtin; refine wpList_append_run rfl _ _ 24 rfl rfl rfl hr ?_) | fail)
  go_ret
  exact Q.out

theorem no_overD (w : World) (g b k la lb cb : Nat) (cur cs : Array Value) (hb : Box w b cs 42) (hg : Box w g cur 42) (hne : b ≠ g) (h0 : 0 < cur.size) : (callFunc 116 #[.slice (some ⟨b, 0, none⟩) la 1, .slice (some ⟨g, k, none⟩) lb cb]).run Tryz.prog w = .ok (.value (.bool false)) w := by
  rw [run_callFunc_extern Tryz.func116 (by kernel_rfl) (by kernel_rfl) (by kernel_rfl) (e := Extern.SlicesOverlaps.overlaps #[24, 24] #[4]) (by kernel_rfl),
    Lib.run_overlaps_apart w 24 4 42 Tryz.underlying24 4 Tryz.sizeOf42 ⟨b, 0, none⟩ ⟨g, k, none⟩ la 1 lb cb hne 42 42 cs.size cur.size hb.shape hg.shape (by omega) (hb.fr 0) (hb.fr _)]
  rfl
set_option maxRecDepth 100000 in
set_option maxHeartbeats 4000000 in
theorem insert_shiftD (B g n cap : Nat) (cur : Array Value) (l : List XAd) (k : Nat) (c : XAd) (b : Nat) (W : World) (hn : n = l.length) (hBg : B ≤ g) (hg : Box W g cur 42) (hcm : cap ≤ maxLen) (hsz : cur.size = cap * 4) (ht : cur.toList.take (n * 4) = flat ED l) (hx : Box W b (cellsD c).toArray 42) (hne : b ≠ g) (hk : k < n) (hroom : n + 1 ≤ cap) (hl : n ≤ 900) :
    Calls Tryz.prog 85 #[.slice (some ⟨g, 0, none⟩) n cap, .int .i64 k, .slice (some ⟨b, 0, none⟩) 1 1] W (InsQD B l k c (.slice (some ⟨g, 0, none⟩) n cap) W) := by
  obtain ⟨R1, R2, r1, r2, ow⟩ := shift_mid (E := ED) (l := l) (k := k) (cap := cap) (cur := cur) (cs := (cellsD c).toArray) (c := c) okD (by omega) (by omega) hsz (by rw [← hn]; exact ht) g b hne
  have hov := fun lb cb => no_overD W g b ((k + 1) * 4) 1 lb cb cur (cellsD c).toArray hx hg hne (by omega)
  have s0 := cut_hi (E := ED) okD g k n cap (by omega) (by omega)
  have s1 := slice_lo (E := ED) okD ⟨g, 0, none⟩ (n + 1) n cap (by omega)
  have s2 := cut_hi (E := ED) okD g (k + 1) (n + 1) cap (by omega) (by omega)
  have s3 := cut_hi (E := ED) okD g k (n + 1) cap (by omega) (by omega)
  have q1 := r1 W.drew 3 (n + 1 - (k + 1)) (cap - (k + 1)) (n + 1 - k) (cap - k) hg (by omega)
  have q2 := r2 (W.drew.setRow g R1) 3 (n + 1 - k) (cap - k) (Box.set (show Box W.drew g cur 42 from hg) R1) (Box.other (show Box W.drew b _ 42 from hx) hne R1) rfl (by omega)
  have Q := Lib.hid (show InsQD B l k c (.slice (some ⟨g, 0, none⟩) n cap) W (.returned (.slice (some ⟨g, 0, none⟩) (n + 1) cap)) ((W.drew.setRow g R1).setRow g R2) from ⟨_, rfl, by rw [hn]; exact ow _ B hBg hcm (Box.set (Box.set (show Box W.drew g cur 42 from hg) R1) R2), below_setRow (below_setRow (Below.refl B W).drew hBg _) hBg _, fun j hj hne => (setRow_other _ g j _ (fun e => hne (by rw [e]; rfl))).trans (setRow_other _ g j _ (fun e => hne (by rw [e]; rfl)))⟩)
  clear r1 r2 ow hg ht hx hsz hBg hcm
  change ∀ w, (Instr.sliceAt 24 (.slice (some ⟨g, 0, none⟩) n cap) (some (.int .i64 k)) none none).run Tryz.prog w = .ok (.slice (some ⟨g, k * 4, none⟩) (n - k) (cap - k)) w at s0
  change ∀ w, (Instr.sliceAt 24 (.slice (some ⟨g, 0, none⟩) n cap) none (some (.int .i64 ((n : Int) + 1))) none).run Tryz.prog w = .ok (.slice (some ⟨g, 0, none⟩) (n + 1) cap) w at s1
  change ∀ w, (Instr.sliceAt 24 (.slice (some ⟨g, 0, none⟩) (n + 1) cap) (some (.int .i64 ((k : Int) + 1))) none none).run Tryz.prog w = .ok (.slice (some ⟨g, (k + 1) * 4, none⟩) (n + 1 - (k + 1)) (cap - (k + 1))) w at s2
  change ∀ w, (Instr.sliceAt 24 (.slice (some ⟨g, 0, none⟩) (n + 1) cap) (some (.int .i64 k)) none none).run Tryz.prog w = .ok (.slice (some ⟨g, k * 4, none⟩) (n + 1 - k) (cap - k)) w at s3
  have e1 : ((k : Int) == (n : Int)) = false := by rw [beq_eq_false_iff_ne]; omega
  have e2 : decide ((cap : Int) < (n : Int) + 1) = false := by simp; omega
  change (Builtin.copy_ #[24, 24] 3 #[.slice (some ⟨g, (k + 1) * 4, none⟩) (n + 1 - (k + 1)) (cap - (k + 1)), .slice (some ⟨g, k * 4, none⟩) (n + 1 - k) (cap - k)]).run Tryz.prog W.drew = .ok (.int .i64 ((l.length - k : Nat) : Int)) (W.drew.setRow g R1) at q1
  change (Builtin.copy_ #[24, 24] 3 #[.slice (some ⟨g, k * 4, none⟩) (n + 1 - k) (cap - k), .slice (some ⟨b, 0, none⟩) 1 1]).run Tryz.prog (W.drew.setRow g R1) = .ok (.int .i64 1) ((W.drew.setRow g R1).setRow g R2) at q2
  clear hn
  go_enter Tryz.func85, Tryz.ntmps85
  go_wp2_with (first | (simp only [hov]) | fail)
  clear hov s0 s1 s2 s3
  have hw1 : IntKind.i64.wrap ((k : Int) + 1) = (k : Int) + 1 := by rw [IntKind.wrap_i64]; omega
  have hb1 : (0 : Int) ≤ (k : Int) + 1 := by omega
  have hb0 : (k : Int) + 1 ≤ (n : Int) + 1 := by omega
  have htn : ((k : Int) + 1).toNat = k + 1 := by omega
  have hb2 : ¬ (cap = k + 1) := by omega
  have hb3 : (k : Int) ≤ (n : Int) + 1 := by omega
  have hb4 : ¬ (cap = k) := by omega
  have h81 : n + 1 - (k + 1) = n - k := by omega
  rw [h81] at q1
  clear h81
  go_region_law (refine step_copy_run rfl (.tmp 73) (.tmp 76) 24 rfl (v := .slice (some ⟨g, (k + 1) * 4, none⟩) (n - k) (cap - (k + 1))) (xv := .slice (some ⟨g, k * 4, none⟩) (n + 1 - k) (cap - k)) (by simp [Act.eval, Act.put]) (by simp [Act.eval, Act.put]) q1 ?_)
  all_goals simp only [Exit.then]
  all_goals apply_assumption
  clear q1 hw1 hb1 hb0 htn hb2 hb3 hb4
  have s3 := cut_hi (E := ED) okD g k (n + 1) cap (by omega) (by omega)
  change ∀ w, (Instr.sliceAt 24 (.slice (some ⟨g, 0, none⟩) (n + 1) cap) (some (.int .i64 k)) none none).run Tryz.prog w = .ok (.slice (some ⟨g, k * 4, none⟩) (n + 1 - k) (cap - k)) w at s3
  go_wp2_with (first | (at_builtin; refine wpList_copy_run rfl _ _ 24 rfl rfl rfl q2 ?_) | fail)
  go_ret
  exact Q.out
set_option maxRecDepth 100000 in
set_option maxHeartbeats 4000000 in
theorem insert_growD (B g n cap : Nat) (cur : Array Value) (l : List XAd) (k : Nat) (c : XAd) (b : Nat) (W : World) (hn : n = l.length) (hg : Box W g cur 42) (hcm : cap ≤ maxLen) (hnc : n ≤ cap) (ht : cur.toList.take (n * 4) = flat ED l) (hx : Box W b (cellsD c).toArray 42) (hk : k < n) (hroom : cap < n + 1) (hl : n ≤ 900) (hB : B ≤ W.heap.size) :
    Calls Tryz.prog 85 #[.slice (some ⟨g, 0, none⟩) n cap, .int .i64 k, .slice (some ⟨b, 0, none⟩) 1 1] W (InsQD B l k c (.slice (some ⟨g, 0, none⟩) n cap) W) := by
  have hgw := hg.lt
  have hbw := hx.lt
  obtain ⟨G, R1, R2, R3, hG1, hG2, r1, r2, r3, ow⟩ := grow_mid (E := ED) (l := l) (k := k) (cap := cap) (cur := cur) (cs := (cellsD c).toArray) (c := c) okD 3 Tryz.underlying3 (by omega) (by omega) (by omega) (by omega) (by rw [← hn]; exact ht) W g b hg hbw
  unfold maxLen at hcm hG2
  have s0 := cut_hi (E := ED) okD g k n cap (by omega) (by omega)
  have s1 := slice_lo (E := ED) okD ⟨g, 0, none⟩ k n cap (by omega)
  have s2 := cut_hi (E := ED) okD W.heap.size k (n + 1) G (by omega) (by omega)
  have s3 := cut_hi (E := ED) okD W.heap.size (k + 1) (n + 1) G (by omega) (by omega)
  have a1 := r1 24
  have n1 := box_new W.drew R1 42
  have bl : W.drew.heap.size = W.heap.size := rfl
  rw [bl] at n1
  have g1 : Box (W.drew.alloc (.cells R1 42)) g cur 42 := Box.more (show Box W.drew g cur 42 from hg) _
  have x1 : Box (W.drew.alloc (.cells R1 42)) b (cellsD c).toArray 42 := Box.more (show Box W.drew b _ 42 from hx) _
  have q2 := r2 (W.drew.alloc (.cells R1 42)) 3 (n + 1 - k) (G - k) n1 x1 rfl (by omega)
  have q3 := r3 ((W.drew.alloc (.cells R1 42)).setRow W.heap.size R2).drew 3 (n + 1 - (k + 1)) (G - (k + 1)) (n - k) (cap - k) (Box.set n1 R2) (Box.other g1 (by omega) R2) (by omega)
  have Q := Lib.hid (show InsQD B l k c (.slice (some ⟨g, 0, none⟩) n cap) W (.returned (.slice (some ⟨W.heap.size, 0, none⟩) (n + 1) G)) (((W.drew.alloc (.cells R1 42)).setRow W.heap.size R2).drew.setRow W.heap.size R3) from ⟨_, rfl, by rw [hn]; exact ow _ B hB (Box.set (Box.set n1 R2) R3), below_setRow (below_setRow ((Below.refl B W).drew.alloc hB _) hB _).drew hB _, fun j hj _ => (setRow_other _ W.heap.size j _ (by omega)).trans ((setRow_other _ W.heap.size j _ (by omega)).trans (Array.getElem?_push_lt hj |>.trans (Array.getElem?_eq_getElem hj).symm))⟩)
  have l1 : l.length + 1 = n + 1 := by rw [hn]
  rw [l1, ← hn] at a1
  clear r1 r2 r3 ow hg ht hx g1 x1 n1 bl l1
  change ∀ w, (Instr.sliceAt 24 (.slice (some ⟨g, 0, none⟩) n cap) (some (.int .i64 k)) none none).run Tryz.prog w = .ok (.slice (some ⟨g, k * 4, none⟩) (n - k) (cap - k)) w at s0
  change ∀ w, (Instr.sliceAt 24 (.slice (some ⟨g, 0, none⟩) n cap) none (some (.int .i64 k)) none).run Tryz.prog w = .ok (.slice (some ⟨g, 0, none⟩) k cap) w at s1
  change ∀ w, (Instr.sliceAt 24 (.slice (some ⟨W.heap.size, 0, none⟩) (n + 1) G) (some (.int .i64 k)) none none).run Tryz.prog w = .ok (.slice (some ⟨W.heap.size, k * 4, none⟩) (n + 1 - k) (G - k)) w at s2
  change ∀ w, (Instr.sliceAt 24 (.slice (some ⟨W.heap.size, 0, none⟩) (n + 1) G) (some (.int .i64 ((k : Int) + 1))) none none).run Tryz.prog w = .ok (.slice (some ⟨W.heap.size, (k + 1) * 4, none⟩) (n + 1 - (k + 1)) (G - (k + 1))) w at s3
  change (Builtin.append_ #[24, 3] 24 #[.slice (some ⟨g, 0, none⟩) k cap, .int .i64 ((n : Int) + 1 - k)]).run Tryz.prog W = .ok (.slice (some ⟨W.heap.size, 0, none⟩) (n + 1) G) (W.drew.alloc (.cells R1 42)) at a1
  change (Builtin.copy_ #[24, 24] 3 #[.slice (some ⟨W.heap.size, k * 4, none⟩) (n + 1 - k) (G - k), .slice (some ⟨b, 0, none⟩) 1 1]).run Tryz.prog (W.drew.alloc (.cells R1 42)) = .ok (.int .i64 1) ((W.drew.alloc (.cells R1 42)).setRow W.heap.size R2) at q2
  change (Builtin.copy_ #[24, 24] 3 #[.slice (some ⟨W.heap.size, (k + 1) * 4, none⟩) (n + 1 - (k + 1)) (G - (k + 1)), .slice (some ⟨g, k * 4, none⟩) (n - k) (cap - k)]).run Tryz.prog ((W.drew.alloc (.cells R1 42)).setRow W.heap.size R2).drew = .ok (.int .i64 ((l.length - k : Nat) : Int)) (((W.drew.alloc (.cells R1 42)).setRow W.heap.size R2).drew.setRow W.heap.size R3) at q3
  have e1 : ((k : Int) == (n : Int)) = false := by rw [beq_eq_false_iff_ne]; omega
  have e2 : decide ((cap : Int) < (n : Int) + 1) = true := by simp; omega
  have hGn : n + 1 ≤ G := by omega
  clear hn
  generalize W.heap.size = N at *
  generalize W.drew.alloc (.cells R1 42) = W1 at *
  generalize W1.setRow N R2 = W2 at *
  go_enter Tryz.func85, Tryz.ntmps85
  go_wp2_with (first | (at_builtin; refine wpList_append_run2 rfl _ _ 24 3 rfl rfl rfl a1 ?_) | (at_builtin; refine wpList_copy_run rfl _ _ 24 rfl rfl rfl q2 ?_) | fail)
  clear a1 q2 s0 s1 s2 s3
  have hw1 : IntKind.i64.wrap ((k : Int) + 1) = (k : Int) + 1 := by rw [IntKind.wrap_i64]; omega
  have hb1 : (0 : Int) ≤ (k : Int) + 1 := by omega
  have hb0 : (k : Int) + 1 ≤ (n : Int) + 1 := by omega
  have htn : ((k : Int) + 1).toNat = k + 1 := by omega
  have hb2 : ¬ (G = k + 1) := by omega
  have hb3 : (k : Int) ≤ (n : Int) := by omega
  have hb4 : ¬ (cap = k) := by omega
  have h81 : n + 1 - (k + 1) = n - k := by omega
  rw [h81] at q3
  clear h81
  go_region_law (refine step_copy_run rfl (.tmp 50) (.tmp 53) 24 rfl (v := .slice (some ⟨N, (k + 1) * 4, none⟩) (n - k) (G - (k + 1))) (xv := .slice (some ⟨g, k * 4, none⟩) (n - k) (cap - k)) (by simp [Act.eval, Act.put]) (by simp [Act.eval, Act.put]) q3 ?_)
  all_goals simp only [Exit.then]
  all_goals apply_assumption
  go_wp2
  go_ret
  exact Q.out
theorem insert_anyD (B : Nat) (v : Value) (l : List XAd) (k : Nat) (c : XAd) (b : Nat) (W : World) (ho : OwnD W B v l) (hx : Box W b (cellsD c).toArray 42) (hne : v.ownBlock ≠ some b) (hk : k ≤ l.length) (hl : l.length ≤ 900) (hB : B ≤ W.heap.size) :
    Calls Tryz.prog 85 #[v, .int .i64 k, .slice (some ⟨b, 0, none⟩) 1 1] W (InsQD B l k c v W) := by
  rcases Nat.lt_or_ge k l.length with h | h
  · rcases own_open ho with ⟨_, h2⟩ | ⟨g, cap, cur, rfl, h1, h2, h3, h4, h5, h6⟩
    · rw [h2] at h; simp at h
    · rcases Nat.lt_or_ge cap (l.length + 1) with h7 | h7
      · exact insert_growD B g _ cap cur l k c b W rfl h2 h4 h3 h6 hx h h7 hl hB
      · exact insert_shiftD B g _ cap cur l k c b W rfl h1 h2 h4 h5 h6 hx (fun e => hne (by simp [Value.ownBlock, e])) h h7 hl
  · obtain rfl : k = l.length := by omega
    exact insert_endD B v l c b W ho hx hl hB
end Go.Proofs.YtonoadjmglkhaaaGreat.Av

namespace Go.Proofs.YtonoadjmglkhaaaGreat.Av
open Go.RowKit Go.Sort Go.Proofs.YtonoadjmglkhaaaGreat Go.Proofs.YtonoadjmglkhaaaGreat.Rw Go.Proofs.YtonoadjmglkhaaaGreat.Nm Go.Proofs.YtonoadjmglkhaaaGreat.Pr Go.Proofs.YtonoadjmglkhaaaGreat.Bk

theorem place_leJ (l : List XID) (y : XID) : placeK keyJ l y ≤ l.length := by
  rw [placeK_map]
  exact Nat.le_trans (place_le _ _) (by simp)
set_option maxRecDepth 100000 in
set_option maxHeartbeats 8000000 in
theorem putJ_any (B : Nat) (v : Sl) (l : List XID) (x : XID) (w : World) (ho : Own EJ w B (slv v) l) (hr : RiseK keyJ l) (hl : l.length ≤ 900) (hB : B ≤ w.heap.size) :
    Calls Tryz.prog 33 #[slv v, idv x, .func (.func 34) #[] #[]] w fun e w' => (∃ v' : Sl, e = .returned (slv v') ∧ Own EJ w' B (slv v') (insAt l (placeK keyJ l (keyJ x)) x)) ∧ Below B w w' ∧ (∀ j, j < w.heap.size → some j ≠ (slv v).ownBlock → w'.heap[j]? = w.heap[j]?) := by
  have h0 := newB w (.cells #[.int .i64 x.1, .int .i64 x.2] 37)
  have X := box_new w #[.int .i64 x.1, .int .i64 x.2] 37
  have C := Lib.hid (bsJ_any (slv v) l x _ ((Row.of_own ho).on h0) hr hl)
  obtain ⟨ks, hks⟩ : ∃ k, k = placeK keyJ l (keyJ x) := ⟨_, rfl⟩
  have KL : ks ≤ l.length := by rw [hks]; exact place_leJ _ _
  rw [← hks] at C
  rw [← hks]
  generalize thereK keyJ l (keyJ x) = th at *
  have OW := Lib.hid (Bk.own_on ho h0)
  have HV := Lib.hid (show (slv v).ownBlock ≠ none → ∃ g, (slv v).ownBlock = some g ∧ g < w.heap.size from fun hne => by
    cases hb : (slv v).ownBlock with
    | none => exact absurd hb hne
    | some g => exact ⟨g, rfl, (ho.lt g hb).2⟩)
  have B0 := Lib.hid ((Below.refl B w).alloc hB (.cells #[.int .i64 x.1, .int .i64 x.2] 37))
  have BN0 := Lib.hid h0
  have KK := Lib.hid KL
  have LL := Lib.hid hl
  have BB := Lib.hid hB
  clear h0 ho hr hl hB hks KL
  obtain ⟨c1, c2⟩ := x
  obtain ⟨vo, vn, vc⟩ := v
  simp only at C X
  have x0 := X.cell 0
  have x1 := X.cell 1
  simp only [List.getElem?_toArray, List.getElem?_cons_zero, List.getElem?_cons_succ] at x0 x1
  have XX := Lib.hid X
  clear X
  go_enter Tryz.func33, Tryz.ntmps33
  go_wp2_with fail
  have W1 := Lib.hid (show w.heap.size ≤ (w.alloc (.cells #[.int .i64 c1, .int .i64 c2] 37)).heap.size by simp)
  generalize w.alloc (.cells #[.int .i64 c1, .int .i64 c2] 37) = W at *
  refine C.out.mono ?_
  rintro e w1 ⟨rfl, hb⟩
  have Y := XX.out.on hb
  have y0 := Y.cell 0
  have y1 := Y.cell 1
  simp only [List.getElem?_toArray, List.getElem?_cons_zero, List.getElem?_cons_succ] at y0 y1
  have O1 := Lib.hid (Bk.own_on OW.out hb)
  have B1 := Lib.hid (B0.out.trans (hb.mono (Nat.le_trans BB.out W1.out)))
  have BW := Lib.hid (fun j (hj : j < w.heap.size) => (hb.block j (Nat.lt_of_lt_of_le hj W1.out)).trans (BN0.out.block j hj))
  have S1 := Lib.hid (Nat.le_trans W1.out hb.size)
  clear C Y hb x0 x1
  go_wp2_with fail
  have hl := LL.out
  have NB := newB w1 (.cells #[.int .i64 c1, .int .i64 c2] 37)
  refine (insert_anyJ B _ l ks (c1, c2) w1.heap.size _ (Bk.own_on O1.out NB) (box_new w1 #[.int .i64 c1, .int .i64 c2] 37) ?_ KK.out (by omega) (Nat.le_trans (Nat.le_trans BB.out S1.out) NB.size)).mono ?_
  · intro he
    obtain ⟨g, hg, hlt⟩ := HV.out (by rw [he]; simp)
    rw [he] at hg
    have := Option.some.inj hg
    have := S1.out
    omega
  rintro e w2 ⟨v', rfl, ho, hb, hoth⟩
  obtain ⟨a1, a2, hv⟩ := (Row.of_own ho).len
  have Q := Lib.hid (show (∃ v'' : Sl, Ending.returned v' = .returned (slv v'') ∧ Own EJ w2 B (slv v'') (insAt l ks (c1, c2))) ∧ Below B w w2 ∧ (∀ j, j < w.heap.size → some j ≠ (slv (vo, vn, vc)).ownBlock → w2.heap[j]? = w.heap[j]?) from ⟨⟨(a1, _, a2), by rw [hv], by subst hv; simpa [insAt] using ho⟩, (B1.out.trans (NB.mono (Nat.le_trans BB.out S1.out))).trans hb, fun j hj hne => (hoth j (Nat.lt_of_lt_of_le (Nat.lt_of_lt_of_le hj S1.out) NB.size) hne).trans ((NB.block j (Nat.lt_of_lt_of_le hj S1.out)).trans (BW.out j hj))⟩)
  clear ho hb hv hl NB
  go_wp2
  go_ret
  exact Q.out
theorem place_leD (l : List XAd) (y : XID) : placeK keyD l y ≤ l.length := by
  rw [placeK_map]
  exact Nat.le_trans (place_le _ _) (by simp)
set_option maxRecDepth 100000 in
set_option maxHeartbeats 8000000 in
theorem putD_any (B : Nat) (v : Sl) (l : List XAd) (x : XAd) (w : World) (ho : Own ED w B (slv v) l) (hr : RiseK keyD l) (hl : l.length ≤ 900) (hB : B ≤ w.heap.size) :
    Calls Tryz.prog 30 #[slv v, valD x, .func (.func 32) #[] #[]] w fun e w' => (∃ v' : Sl, e = .returned (slv v') ∧ Own ED w' B (slv v') (insAt l (placeK keyD l (keyD x)) x)) ∧ Below B w w' ∧ (∀ j, j < w.heap.size → some j ≠ (slv v).ownBlock → w'.heap[j]? = w.heap[j]?) := by
  have h0 := newB w (.cells #[.int .i64 x.1, .int .i64 x.2.1, slv x.2.2.1, .int .i64 x.2.2.2] 42)
  have X := box_new w #[.int .i64 x.1, .int .i64 x.2.1, slv x.2.2.1, .int .i64 x.2.2.2] 42
  have C := Lib.hid (bsD_any (slv v) l x _ ((Row.of_own ho).on h0) hr hl)
  obtain ⟨ks, hks⟩ : ∃ k, k = placeK keyD l (keyD x) := ⟨_, rfl⟩
  have KL : ks ≤ l.length := by rw [hks]; exact place_leD _ _
  have e1 : keyD x = (x.1, x.2.1) := rfl
  rw [← e1] at C
  rw [← hks] at C
  rw [← hks]
  generalize thereK keyD l (keyD x) = th at *
  have OW := Lib.hid (Bk.own_on ho h0)
  have HV := Lib.hid (show (slv v).ownBlock ≠ none → ∃ g, (slv v).ownBlock = some g ∧ g < w.heap.size from fun hne => by
    cases hb : (slv v).ownBlock with
    | none => exact absurd hb hne
    | some g => exact ⟨g, rfl, (ho.lt g hb).2⟩)
  have B0 := Lib.hid ((Below.refl B w).alloc hB (.cells #[.int .i64 x.1, .int .i64 x.2.1, slv x.2.2.1, .int .i64 x.2.2.2] 42))
  have BN0 := Lib.hid h0
  have KK := Lib.hid KL
  have LL := Lib.hid hl
  have BB := Lib.hid hB
  clear h0 ho hr hl hB hks KL
  obtain ⟨c1, c2, ⟨c3, c4, c5⟩, c6⟩ := x
  obtain ⟨vo, vn, vc⟩ := v
  simp only at C X
  have x0 := X.cell 0
  have x1 := X.cell 1
  have x2 := X.cell 2
  have x3 := X.cell 3
  simp only [List.getElem?_toArray, List.getElem?_cons_zero, List.getElem?_cons_succ] at x0 x1 x2 x3
  have XX := Lib.hid X
  clear X
  go_enter Tryz.func30, Tryz.ntmps30
  go_wp2_with fail
  have W1 := Lib.hid (show w.heap.size ≤ (w.alloc (.cells #[.int .i64 c1, .int .i64 c2, .slice c3 c4 c5, .int .i64 c6] 42)).heap.size by simp)
  generalize w.alloc (.cells #[.int .i64 c1, .int .i64 c2, .slice c3 c4 c5, .int .i64 c6] 42) = W at *
  refine C.out.mono ?_
  rintro e w1 ⟨rfl, hb⟩
  have Y := XX.out.on hb
  have y0 := Y.cell 0
  have y1 := Y.cell 1
  have y2 := Y.cell 2
  have y3 := Y.cell 3
  simp only [List.getElem?_toArray, List.getElem?_cons_zero, List.getElem?_cons_succ] at y0 y1 y2 y3
  have O1 := Lib.hid (Bk.own_on OW.out hb)
  have B1 := Lib.hid (B0.out.trans (hb.mono (Nat.le_trans BB.out W1.out)))
  have BW := Lib.hid (fun j (hj : j < w.heap.size) => (hb.block j (Nat.lt_of_lt_of_le hj W1.out)).trans (BN0.out.block j hj))
  have S1 := Lib.hid (Nat.le_trans W1.out hb.size)
  clear C Y hb x0 x1 x2 x3
  go_wp2_with fail
  have hl := LL.out
  have NB := newB w1 (.cells #[.int .i64 c1, .int .i64 c2, .slice c3 c4 c5, .int .i64 c6] 42)
  refine (insert_anyD B _ l ks (c1, c2, (c3, c4, c5), c6) w1.heap.size _ (Bk.own_on O1.out NB) (box_new w1 #[.int .i64 c1, .int .i64 c2, .slice c3 c4 c5, .int .i64 c6] 42) ?_ KK.out (by omega) (Nat.le_trans (Nat.le_trans BB.out S1.out) NB.size)).mono ?_
  · intro he
    obtain ⟨g, hg, hlt⟩ := HV.out (by rw [he]; simp)
    rw [he] at hg
    have := Option.some.inj hg
    have := S1.out
    omega
  rintro e w2 ⟨v', rfl, ho, hb, hoth⟩
  obtain ⟨a1, a2, hv⟩ := (Row.of_own ho).len
  have Q := Lib.hid (show (∃ v'' : Sl, Ending.returned v' = .returned (slv v'') ∧ Own ED w2 B (slv v'') (insAt l ks (c1, c2, (c3, c4, c5), c6))) ∧ Below B w w2 ∧ (∀ j, j < w.heap.size → some j ≠ (slv (vo, vn, vc)).ownBlock → w2.heap[j]? = w.heap[j]?) from ⟨⟨(a1, _, a2), by rw [hv], by subst hv; simpa [insAt] using ho⟩, (B1.out.trans (NB.mono (Nat.le_trans BB.out S1.out))).trans hb, fun j hj hne => (hoth j (Nat.lt_of_lt_of_le (Nat.lt_of_lt_of_le hj S1.out) NB.size) hne).trans ((NB.block j (Nat.lt_of_lt_of_le hj S1.out)).trans (BW.out j hj))⟩)
  clear ho hb hv hl NB
  go_wp2
  go_ret
  exact Q.out
end Go.Proofs.YtonoadjmglkhaaaGreat.Av

namespace Go.Proofs.YtonoadjmglkhaaaGreat.Av
open Go.RowKit Go.Sort Go.Proofs.YtonoadjmglkhaaaGreat Go.Proofs.YtonoadjmglkhaaaGreat.Rw Go.Proofs.YtonoadjmglkhaaaGreat.Nm Go.Proofs.YtonoadjmglkhaaaGreat.Pr Go.Proofs.YtonoadjmglkhaaaGreat.Bk

/-- All stays but one block, if there is one. -/
def Off (ob : Option Nat) (W x : World) : Prop := (∀ j, j < W.heap.size → some j ≠ ob → x.heap[j]? = W.heap[j]?) ∧ W.heap.size ≤ x.heap.size
/-- That one block is of the type t. -/
def Tag (ob : Option Nat) (W : World) (t : TypeId) : Prop := ∀ g, ob = some g → ∃ d, Box W g d t
theorem tag_own {α : Type} {E : Ek α} {W : World} {B : Nat} {v : Value} {l : List α} (h : Own E W B v l) : Tag v.ownBlock W E.t := by
  intro g hg
  rcases own_open h with ⟨rfl, _⟩ | ⟨g', c', cur, rfl, _, h2, _⟩
  · cases hg
  · obtain rfl : g' = g := by simpa [Value.ownBlock] using hg
    exact ⟨cur, h2⟩
theorem Off.own {α : Type} {E : Ek α} {ob : Option Nat} {W x : World} {B : Nat} {v : Value} {l : List α} {t : TypeId} (h : Off ob W x) (ho : Own E W B v l) (hg : Tag ob W t) (hne : (E.t == t) = false) : Own E x B v l := by
  refine ⟨ho.1, ?_⟩
  rcases ho.2 with h2 | ⟨g', cap, cur, h1, h2, h3, h4⟩
  · exact Or.inl h2
  · refine Or.inr ⟨g', cap, cur, h1, h2, ?_, h4⟩
    rw [h.1 g' (lt_of_heap h3) fun e => by
      obtain ⟨d, hd⟩ := hg g' e.symm
      exact box_ne (show Box W g' cur E.t from h3) hd hne rfl]
    exact h3
theorem Off.box {ob : Option Nat} {W x : World} {b : Nat} {cs : Array Value} {s t : TypeId} (h : Off ob W x) (hb : Box W b cs s) (hg : Tag ob W t) (hne : (s == t) = false) : Box x b cs s := (h.1 b hb.lt fun e => by
  obtain ⟨d, hd⟩ := hg b e.symm
  exact box_ne hb hd hne rfl).trans hb
theorem PM.off {w0 wr x : World} {B : Nat} {v : Value} {p : List C5} {ob : Option Nat} {t : TypeId} (h : PM w0 B wr v p) (hb : Off ob wr x) (hg : Tag ob wr t) (hne : (62 == t) = false) : PM w0 B x v p := h.imp id fun h => hb.own h hg hne
theorem AdM.off {w0 wr x : World} {B : Nat} {y : XAd} {a : Ad} {ob : Option Nat} {t : TypeId} (h : AdM w0 B wr y a) (hb : Off ob wr x) (hg : Tag ob wr t) (hne : (62 == t) = false) : AdM w0 B x y a := ⟨h.1, h.2.1, h.2.2.off hb hg hne⟩
theorem EnM.off {w0 wr x : World} {B : Nat} {y : XEn} {a : En} {ob : Option Nat} {t : TypeId} (h : EnM w0 B wr y a) (hb : Off ob wr x) (hg : Tag ob wr t) (hne : (62 == t) = false) : EnM w0 B x y a := ⟨h.1, h.2.1, h.2.2.1, h.2.2.2.1, h.2.2.2.2.off hb hg hne⟩
theorem OwM.off {w0 wr x : World} {B : Nat} {y : XOw} {a : Ow} {ob : Option Nat} {t : TypeId} (h : OwM w0 B wr y a) (hb : Off ob wr x) (hg : Tag ob wr t) (hne : (62 == t) = false) : OwM w0 B x y a := ⟨h.1, h.2.off hb hg hne⟩
theorem Cp.offD {w0 wr x : World} {B : Nat} {b : Br} {nv av sv ev ov av' : Sl} {al : List Ad} (h : Cp w0 B wr b nv av sv ev ov) (hb : Off (slv av).ownBlock wr x) (hx : ∃ l, OwnD x B (slv av') l ∧ All2 (AdM w0 B x) l al) : Cp w0 B x { b with adv := al } nv av' sv ev ov := by
  obtain ⟨l0, hl0, _⟩ := h.adv
  have hg := tag_own hl0
  exact {
    near := hb.own h.near hg (by decide)
    seen := hb.own h.seen hg (by decide)
    adv := hx
    ent := by obtain ⟨l, h1, h2⟩ := h.ent; exact ⟨l, hb.own h1 hg (by decide), h2.mono fun _ _ h => h.off hb hg (by decide)⟩
    own := by obtain ⟨l, h1, h2⟩ := h.own; exact ⟨l, hb.own h1 hg (by decide), h2.mono fun _ _ h => h.off hb hg (by decide)⟩ }
theorem Cp.offN {w0 wr x : World} {B : Nat} {b : Br} {nv av sv ev ov ev' : Sl} {el : List En} (h : Cp w0 B wr b nv av sv ev ov) (hb : Off (slv ev).ownBlock wr x) (hx : ∃ l, OwnN x B (slv ev') l ∧ All2 (EnM w0 B x) l el) : Cp w0 B x { b with ent := el } nv av sv ev' ov := by
  obtain ⟨l0, hl0, _⟩ := h.ent
  have hg := tag_own hl0
  exact {
    near := hb.own h.near hg (by decide)
    seen := hb.own h.seen hg (by decide)
    adv := by obtain ⟨l, h1, h2⟩ := h.adv; exact ⟨l, hb.own h1 hg (by decide), h2.mono fun _ _ h => h.off hb hg (by decide)⟩
    ent := hx
    own := by obtain ⟨l, h1, h2⟩ := h.own; exact ⟨l, hb.own h1 hg (by decide), h2.mono fun _ _ h => h.off hb hg (by decide)⟩ }
theorem Cp.offJ {w0 wr x : World} {B : Nat} {b : Br} {nv av sv ev ov sv' : Sl} {sl : List XID} (h : Cp w0 B wr b nv av sv ev ov) (hb : Off (slv sv).ownBlock wr x) (hx : OwnJ x B (slv sv') sl) : Cp w0 B x { b with seen := sl } nv av sv' ev ov := by
  have hg := tag_own h.seen
  exact {
    near := hb.own h.near hg (by decide)
    seen := hx
    adv := by obtain ⟨l, h1, h2⟩ := h.adv; exact ⟨l, hb.own h1 hg (by decide), h2.mono fun _ _ h => h.off hb hg (by decide)⟩
    ent := by obtain ⟨l, h1, h2⟩ := h.ent; exact ⟨l, hb.own h1 hg (by decide), h2.mono fun _ _ h => h.off hb hg (by decide)⟩
    own := by obtain ⟨l, h1, h2⟩ := h.own; exact ⟨l, hb.own h1 hg (by decide), h2.mono fun _ _ h => h.off hb hg (by decide)⟩ }
theorem all2_ins {α β : Type} {R : α → β → Prop} {l : List α} {m : List β} (h : All2 R l m) (k : Nat) {a : α} {b : β} (hr : R a b) : All2 R (insAt l k a) (insAt m k b) :=
  ((h.take k).append (.cons hr .nil)).append (h.drop k)
theorem keys_eq {w0 wr : World} {B : Nat} : ∀ {l : List XAd} {al : List Ad}, All2 (AdM w0 B wr) l al → l.map keyD = al.map Ad.id
  | _, _, .nil => rfl
  | _, _, .cons h t => by rw [List.map_cons, List.map_cons, keys_eq t]; exact congrArg (· :: _) h.1
theorem riseK_map {α : Type} (key : α → XID) (l : List α) : RiseK key l ↔ RiseK (fun x : XID => x) (l.map key) := by
  unfold RiseK
  rw [List.pairwise_map]
end Go.Proofs.YtonoadjmglkhaaaGreat.Av
