/-
  The law GraphBad: a link from a broker to itself, one that is there already, one to no broker, a broker that nothing joins: told, and where. Conditions: package errors' variable holds the handle of the type 'error'; numbers of 64 bits; lists no longer than a machine holds.
-/
import Derived.Test.YtbnfndcbhnjnaaaDoorGsBadW
namespace Go.Proofs.YtbnfndcbhnjnaaaDoor.Gr
open Go.RowKit Go.Sort Go.Proofs.YtbnfndcbhnjnaaaDoor Go.Proofs.YtbnfndcbhnjnaaaDoor.Rw Go.Proofs.YtbnfndcbhnjnaaaDoor.Kp Go.Proofs.YtbnfndcbhnjnaaaDoor.In Go.Proofs.YtbnfndcbhnjnaaaDoor.Wi

set_option maxRecDepth 100000 in
set_option maxHeartbeats 8000000 in
theorem gbad_any (kn : Int) (uv mv : Value) (us ms : List Int) (what at_ ai : Int) (w : World) (hg : Fa.EG w) (hb : I64 kn) (hu : InInts w uv us) (hm : InInts w mv ms) (lu : us.length ≤ maxLen) (lm : ms.length ≤ maxLen) (h1 : I64 what) (h2 : I64 at_) (h3 : I64 ai) :
    Calls Tryd.prog 6 #[.agg #[.int .i64 kn, uv, mv], .int .i64 what, .int .i64 at_, .int .i64 ai] w fun e w' => e = .returned (.bool true) ∧ Below w.heap.size w w' := by
  obtain ⟨w0, hw0⟩ : ∃ w0, w0 = w.alloc (.cells #[.int .i64 kn, uv, mv] 39) := ⟨_, rfl⟩
  have B0 := Lib.hid (show Below w.heap.size w w0 by rw [hw0]; exact (Below.refl _ _).alloc (Nat.le_refl _) _)
  have E0 := Lib.hid (GE.mk hg)
  have GC := Lib.hid (graph_ok kn uv mv us ms w0 hb (hu.on B0.out) (hm.on B0.out) lu lm)
  have HW0 := Lib.hid hw0
  have I1 := Lib.hid h1
  have I2 := Lib.hid h2
  have I3 := Lib.hid h3
  clear hg hb hu hm lu lm h1 h2 h3 hw0
  go_enter Tryd.func6, Tryd.ntmps6
  go_wp2_with fail
  rw [← HW0.out]
  refine (GC.out).mono ?_
  rintro e1 w1 ⟨⟨n, lv, l, rfl, ho, hsm⟩, hb⟩
  obtain ⟨lo, lc, rfl⟩ := (Row.of_own ho).len
  have B1 := Lib.hid (B0.out.trans (hb.mono B0.out.size))
  have SG := Lib.hid hsm
  have hn1 := hsm.right.lo
  have hn7 := hsm.seven
  have hl14 := hsm.few
  obtain ⟨m, hm⟩ : ∃ m, m = l.length := ⟨_, rfl⟩
  rw [← hm] at ho hl14 ⊢
  have HM := Lib.hid hm
  have O1 := Lib.hid ho
  obtain ⟨bO, hbO⟩ : ∃ b, b = w0.heap.size := ⟨_, rfl⟩
  rw [← hbO] at O1
  clear ho hsm GC HW0 hm hb B0
  have HZ := Lib.hid ((Below.refl w1.heap.size w1).alloc (Nat.le_refl _) (.cells #[.int .i64 n, .slice lo m lc] 25))
  have B2 := Lib.hid (B1.out.trans (HZ.out.mono B1.out.size))
  have O2 := Lib.hid (own_on O1.out HZ.out)
  have X2 := Lib.hid (box_new w1 #[.int .i64 n, .slice lo m lc] 25)
  have G1 := Lib.hid B1.out.size
  go_upto_region 2 with fail
  clear HZ B1 O1 hbO
  generalize w1.alloc (.cells #[.int .i64 n, .slice lo m lc] 25) = w2 at *
  obtain ⟨gb, hgb⟩ : ∃ gb, gb = w1.heap.size := ⟨_, rfl⟩
  rw [← hgb] at X2 G1 ⊢
  clear hgb
  have a1 := X2.out.cell 1
  simp only [List.getElem?_toArray, List.getElem?_cons_zero, List.getElem?_cons_succ] at a1
  have bi := within_bd at_ 0 (m : Int) (by omega)
  obtain ⟨i, hi⟩ : ∃ i : Nat, within at_ 0 (m : Int) = i := ⟨(within at_ 0 (m : Int)).toNat, by omega⟩
  have WI := Lib.hid (fun W => within_any at_ 0 (m : Int) W (by omega) (by omega) (by omega) I2.out.1 I2.out.2)
  rw [hi] at WI bi
  clear hi
  go_wp2_with fail
  refine (WI.out w2).mono ?_
  rintro e2 w2' ⟨rfl, rfl⟩
  have HZ := Lib.hid ((Below.refl w2.heap.size w2).alloc (Nat.le_refl _) (.cells #[.int .i64 i] 3))
  have B3 := Lib.hid (B2.out.trans (HZ.out.mono B2.out.size))
  have O3 := Lib.hid (own_on O2.out HZ.out)
  have X3 := Lib.hid (X2.out.on HZ.out)
  have Y3 := Lib.hid (box_new w2 #[.int .i64 i] 3)
  have LG := Lib.hid X2.out.lt
  go_upto_region 4 with fail
  clear HZ B2 O2 X2 WI a1
  generalize w2.alloc (.cells #[.int .i64 i] 3) = w3 at *
  obtain ⟨ib, hib⟩ : ∃ ib, ib = w2.heap.size := ⟨_, rfl⟩
  rw [← hib] at Y3 LG ⊢
  clear hib
  have a0 := X3.out.cell 0
  simp only [List.getElem?_toArray, List.getElem?_cons_zero] at a0
  have hwn : IntKind.i64.wrap (n - 1) = n - 1 := IntWalk.i64_in _ (by omega)
  have bv := within_bd ai 0 (n - 1) (by omega)
  have WV := Lib.hid (fun W => within_any ai 0 (n - 1) W (by omega) (by omega) (by omega) I3.out.1 I3.out.2)
  generalize within ai 0 (n - 1) = v at *
  go_wp2_with fail
  refine (WV.out w3).mono ?_
  rintro e3 w3' ⟨rfl, rfl⟩
  clear WV hwn a0
  go_upto_region 6 with fail
  have CP := Lib.hid (fun x (hx : Below w3.heap.size w3 x) => (badput_any x gb ib m i n (v, v) lo lc l (X3.out.on hx) (Y3.out.on hx) (Row.of_own (own_on O3.out hx)) HM.out (by omega) (by have := HM.out; omega)).mono fun e w' (h : (∃ g k c, e = .returned (gv n (.slice (some ⟨g, 0, none⟩) k c)) ∧ OwnK w' x.heap.size (.slice (some ⟨g, 0, none⟩) k c) (l.take i ++ (v, v) :: l.drop i) ∧ k = l.length + 1) ∧ Below x.heap.size x w') => by
    obtain ⟨⟨g, k, c, he, hoo, hk⟩, hbb⟩ := h
    exact (show (∃ g k c, e = .returned (gv n (.slice (some ⟨g, 0, none⟩) k c)) ∧ OwnK w' w3.heap.size (.slice (some ⟨g, 0, none⟩) k c) (l.take i ++ (v, v) :: l.drop i) ∧ k = (l.take i ++ (v, v) :: l.drop i).length) ∧ Below x.heap.size x w' from ⟨⟨g, k, c, he, own_less hx.size hoo, by have := HM.out; simp; omega⟩, hbb⟩))
  refine bad_r6 _ w3 gb ib v i n (l.take i ++ (v, v) :: l.drop i) _ _ _ _ _ _ _ _ _ _ _ _ _ _ _ _ _ _ _ _ _ _ _ _ _ _ _ _ _ _ _ _ _ _ _ _ _ _ _ _ _ _ _ _ _ _ _ _ _ _ _ _ _ _ _ _ _ _ _ _ _ _ _ _ _ _ _ _ _ _ _ _ _ _ _ _ _ _ _ _ _ _ _ _ _ _ _ _ _ _ _ _ _ _ _ _ _ _ _ _ _ _ _ _ (fun x hx => (Y3.out.on hx).cell 0) CP.out ?_
  intro w4 bb g k c v16 v17 v18 v19 v20 v21 v22 v23 v24 v25 v26 v27 v28 v29 v30 v31 v32 v33 v34 v35 v36 v37 hbx hbo hk hbb hb4
  clear hk
  have B4 := Lib.hid (B3.out.trans (hb4.mono B3.out.size))
  have O4 := Lib.hid (own_on O3.out hb4)
  have X4 := Lib.hid (X3.out.on hb4)
  have Y4 := Lib.hid (Y3.out.on hb4)
  have hg3 := X3.out.lt
  have hi3 := Y3.out.lt
  have hw3 := B3.out.size
  simp only [Exit.then]
  apply_assumption
  exact bad_7 w w4 (min bO w3.heap.size) gb ib bb m i g k c n v what ai l lo lc _ _ _ _ _ _ _ _ _ _ _ _ _ _ _ _ _ _ _ _ _ _ _ _ _ _ _ _ _ _ _ _ _ _ _ _ _ _ _ _ _ _ _ _ _ _ _ _ _ _ _ _ _ _ _ _ _ _ _ _ _ _ _ _ _ _ _ _ _ _ _ _ _ _ _ _ _ _ _ _ _ _ _ _ _ _ _ _ _ _ _ _ _ _ _ _ _ _ B4.out E0.out X4.out Y4.out (own_less (Nat.min_le_left _ _) O4.out) HM.out SG.out hbx (own_less (Nat.min_le_right _ _) hbo) (by omega) (by omega) (by omega) ⟨by omega, by omega⟩ (by omega) I1.out I3.out
end Go.Proofs.YtbnfndcbhnjnaaaDoor.Gr
