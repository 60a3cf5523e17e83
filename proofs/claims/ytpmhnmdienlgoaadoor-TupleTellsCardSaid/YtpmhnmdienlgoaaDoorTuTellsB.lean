/-
  The law TupleTells, whole: it answers true at any attributes, of numbers or raw, and any name. Condition: strconv's table of powers of ten is as its text lays it; numbers of 64 bits; lists and texts no longer than a machine holds.
-/
import Derived.Test.YtpmhnmdienlgoaaDoorTuTells
namespace Go.Proofs.YtpmhnmdienlgoaaDoor.At
open Go.RowKit Go.Sort Go.Proofs.YtpmhnmdienlgoaaDoor.Va Go.Proofs.YtpmhnmdienlgoaaDoor.In Go.Proofs.YtpmhnmdienlgoaaDoor.Rg

theorem tup_sizes (has vals : List Int) : ∀ x ∈ tup has vals 7, x.1.size ≤ maxLen ∧ x.2.2.2.size ≤ maxLen := fun x hx => by
  have h := (tup_small has vals).2 x hx
  unfold maxLen
  omega
set_option maxRecDepth 100000 in
set_option maxHeartbeats 8000000 in
theorem tells_any (rv hv vv : Value) (rl : List A4) (has vals : List Int) (own : Bool) (n : ByteArray) (w : World) (hg : VG w) (hr : RowA w rv rl) (hrl : rl.length ≤ maxLen) (hrs : ∀ x ∈ rl, x.1.size ≤ maxLen ∧ x.2.2.2.size ≤ maxLen)
    (hh : InInts w hv has) (hw : InInts w vv vals) (lh : has.length ≤ maxLen) (lvl : vals.length ≤ maxLen) (hn : n.size ≤ maxLen) :
    Calls Tryd.prog 4 #[rv, .agg #[hv, vv], .bool own, .string n] w (GetsQ w) := by
  have HG := Lib.hid hg
  have RS := Lib.hid hrs
  have HN := Lib.hid hn
  have B1 := Lib.hid (show Below w.heap.size w (w.alloc (.cells #[hv, vv] 35)) from (Below.refl _ _).alloc (Nat.le_refl _) _)
  have C1 : ∀ i, (w.alloc (.cells #[hv, vv] 35)).cell? ⟨w.heap.size, i, none⟩ = #[hv, vv][i]? := fun i => by rw [World.cell?_alloc_at _ _ _ _ rfl]
  obtain ⟨w1, hw1⟩ : ∃ w1, w.alloc (.cells #[hv, vv] 35) = w1 := ⟨_, rfl⟩
  have hs1 : w1.heap.size = w.heap.size + 1 := by rw [← hw1]; simp
  rw [hw1] at B1 C1
  obtain ⟨k, hk⟩ : ∃ k : Nat, k = min rl.length 7 := ⟨_, rfl⟩
  have hmin : min (rl.length : Int) 7 = (k : Int) := by omega
  have hm : rl.length ≤ 9223372036854775807 := by unfold maxLen at hrl; omega
  obtain ⟨slo, rlo, llo⟩ := row_lo (hr.on B1.out) k (by omega)
  have MK : (w1.alloc (.cells #[] 25)).ownsRow w1.heap.size 25 4 (.slice (some ⟨w1.heap.size, 0, none⟩) 0 0) 0 [] := World.ownsRow_made w1 #[] 0 (Nat.le_refl _) (by decide) rfl
  obtain ⟨v3, w3_, r3, o3, g3⟩ := app_row w1.heap.size MK (llo.on ((Below.refl _ _).alloc (Nat.le_refl _) (.cells #[] 25))) (by omega) (by simp; omega) (by simp) 26
  have B3 := Lib.hid (((Below.refl w1.heap.size w1).alloc (Nat.le_refl _) (.cells #[] 25)).grown g3 (by simp) (fun j hj => (MK.lt j hj).1))
  have BW := Lib.hid (B1.out.trans (B3.out.mono B1.out.size))
  have KV : (rl.take k).length = k := by simp; omega
  have R3 := Lib.hid (show RowA w3_ v3 (rl.take k) from RowA.of_owns (B := w1.heap.size) (by simpa using o3))
  have SZ := Lib.hid (show ∀ x ∈ rl.take k, x.1.size ≤ maxLen ∧ x.2.2.2.size ≤ maxLen from fun x hx => RS.out x (List.mem_of_mem_take hx))
  have K7 := Lib.hid (show (rl.take k).length ≤ 7 by omega)
  have b0 := B3.out.cell (p := ⟨w.heap.size, 0, none⟩) (by show w.heap.size < _; omega)
  have b1 := B3.out.cell (p := ⟨w.heap.size, 1, none⟩) (by show w.heap.size < _; omega)
  rw [C1 0] at b0
  rw [C1 1] at b1
  have TP := Lib.hid (tuple_any hv vv has vals w3_ (hh.on BW.out) (hw.on BW.out) lh lvl)
  obtain ⟨rao, rcap, rfl⟩ := hr.len
  rw [show ((k : Nat) : Int) = (k : Int) from rfl] at rlo
  simp at b0 b1
  rw [hs1, ← hw1] at r3
  generalize rl.take k = l at *
  clear llo MK o3 g3 KV hr hrl hrs hh hw lh lvl hn hg hk C1 B1 B3 hs1 hw1
  cases own
  · obtain ⟨vo, vc, rfl⟩ := R3.out.len
    clear TP b0 b1
    go_enter Tryd.func4, Tryd.ntmps4
    go_upto_block 0 with (first | (at_builtin; refine wpList_append_run rfl _ _ 26 rfl rfl rfl r3 ?_) | fail)
    clear r3 rlo hmin
    refine tells_loop _ w3_ _ _ l n R3.out ((Below.refl _ _).alloc (Nat.le_refl _) _) (box_new _ _ _ _) (by have := K7.out; omega) _ _ _ _ _ _ _ _ _ _ _ _ _ _ _ _ _ _ _ _ _ _ _ _ _ _ _ _ _ _ _ _ _ _ _ _ _ _ _ _ _ _ _ _ _ _ _ _ _ _ _ _ _ _ _ _ _ _ _ _ _ _ _ _ _ _ _ _ _ _ _ _ _ _ _ _ _ _ _ _ _ _ _ _ _ _ _ _ _ _  ?_
    intro w5 u13 u30 u31 u32 u33 u34 u35 u36 u37 u38 u39 u40 u41 u42 u43 u44 hb5 hx5
    simp only [Exit.then]
    apply_assumption
    exact tells_tail w w5 w3_.heap.size _ l n HG.out (BW.out.trans (hb5.mono BW.out.size)) (R3.out.on hb5) K7.out SZ.out HN.out hx5 _ _ _ _ _ _ _ _ _ _ _ _ _ _ _ _ _ _ _ _ _ _ _ _ _ _ _ _ _ _ _ _ _ _ _ _ _ _ _ _ _ _ _ _ _ _ _ _ _ _ _ _ _ _ _ _ _ _ _ _ _ _ _ _ _ _ _ _ _ _ _ _ _ _ _ _ _ _ _ _ _ _ _ _ _ _ _ _ _ _ _ _ 
  · go_enter Tryd.func4, Tryd.ntmps4
    go_wp2_with (first | (at_builtin; refine wpList_append_run rfl _ _ 26 rfl rfl rfl r3 ?_) | fail)
    clear r3 rlo hmin b0 b1
    refine TP.out.mono ?_
    rintro e4 w4 ⟨v4, rfl, hown, hb4⟩
    have R4 := Lib.hid (RowA.of_owns hown)
    have BV := Lib.hid (BW.out.trans (hb4.mono BW.out.size))
    have S4 := Lib.hid (tup_sizes has vals)
    have K4 := Lib.hid (show (tup has vals 7).length ≤ 7 from tup_len has vals 7)
    generalize tup has vals 7 = m at *
    obtain ⟨vo, vc, rfl⟩ := R4.out.len
    clear hown hb4
    go_upto_block 0 with (fail)
    refine tells_loop _ w4 _ _ m n R4.out ((Below.refl _ _).alloc (Nat.le_refl _) _) (box_new _ _ _ _) (by have := K4.out; omega) _ _ _ _ _ _ _ _ _ _ _ _ _ _ _ _ _ _ _ _ _ _ _ _ _ _ _ _ _ _ _ _ _ _ _ _ _ _ _ _ _ _ _ _ _ _ _ _ _ _ _ _ _ _ _ _ _ _ _ _ _ _ _ _ _ _ _ _ _ _ _ _ _ _ _ _ _ _ _ _ _ _ _ _ _ _ _ _ _ _  ?_
    intro w5 u13 u30 u31 u32 u33 u34 u35 u36 u37 u38 u39 u40 u41 u42 u43 u44 hb5 hx5
    simp only [Exit.then]
    apply_assumption
    exact tells_tail w w5 w4.heap.size _ m n HG.out (BV.out.trans (hb5.mono BV.out.size)) (R4.out.on hb5) K4.out S4.out HN.out hx5 _ _ _ _ _ _ _ _ _ _ _ _ _ _ _ _ _ _ _ _ _ _ _ _ _ _ _ _ _ _ _ _ _ _ _ _ _ _ _ _ _ _ _ _ _ _ _ _ _ _ _ _ _ _ _ _ _ _ _ _ _ _ _ _ _ _ _ _ _ _ _ _ _ _ _ _ _ _ _ _ _ _ _ _ _ _ _ _ _ _ _ _ 
end Go.Proofs.YtpmhnmdienlgoaaDoor.At
