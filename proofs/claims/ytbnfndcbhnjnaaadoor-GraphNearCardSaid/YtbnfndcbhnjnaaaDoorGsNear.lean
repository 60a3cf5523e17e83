/-
  The law GraphNear: near is both ways; all of them together are the ways; the order in which links are told, and which end first, doesn't matter. Conditions: package errors' variable holds the handle of the type 'error'; numbers of 64 bits; lists no longer than a machine holds.
-/
import Derived.Test.YtbnfndcbhnjnaaaDoorGsBase
import Derived.Test.YtbnfndcbhnjnaaaDoorGsNearP
import Derived.Test.YtbnfndcbhnjnaaaDoorGsNear9
import Derived.Test.YtbnfndcbhnjnaaaDoorGsNear25
namespace Go.Proofs.YtbnfndcbhnjnaaaDoor.Gr
open Go.RowKit Go.Sort Go.Proofs.YtbnfndcbhnjnaaaDoor Go.Proofs.YtbnfndcbhnjnaaaDoor.Rw Go.Proofs.YtbnfndcbhnjnaaaDoor.Kp Go.Proofs.YtbnfndcbhnjnaaaDoor.In Go.Proofs.YtbnfndcbhnjnaaaDoor.Wi

/-- The links told anew, as they lie in memory. -/
structure OInv (W : World) (B xb : Nat) (n : Int) (l : List Lk) (ls : List Lk) (vo : Option Addr) (vm vc : Nat) : Prop where
  box : Box W xb #[.int .i64 n, .slice vo vm vc] 25
  own : OwnK W B (.slice vo vm vc) ls
  same : SameG n l ls
  len : vm = ls.length
theorem OInv.on {W W' : World} {B xb : Nat} {n : Int} {l ls : List Lk} {vo : Option Addr} {vm vc : Nat} (h : OInv W B xb n l ls vo vm vc) (hb : Below W.heap.size W W') : OInv W' B xb n l ls vo vm vc := ⟨h.box.on hb, own_on h.own hb, h.same, h.len⟩
/-- An append to a row of one's own: what is there then, the row written out. -/
theorem app_form {w : World} (B : Nat) {v x : Value} {l m : List Lk} (hown : OwnK w B v l) (hx : RowK w x m) (hn : l.length ≤ 1000) (hm : m.length ≤ 1000) (hB : B ≤ w.heap.size) (hp : 0 < (l ++ m).length) :
    ∃ g c w', (Builtin.append_ #[23, 23] 23 #[v, x]).run Tryd.prog w = .ok (.slice (some ⟨g, 0, none⟩) (l ++ m).length c) w' ∧ OwnK w' B (.slice (some ⟨g, 0, none⟩) (l ++ m).length c) (l ++ m) ∧ w.grownBy w' v.ownBlock := by
  obtain ⟨v', w', r, o, gr⟩ := appK B hown hx hn hm hB
  rcases own_open o with ⟨_, e⟩ | ⟨g, cap, cur, rfl, _⟩
  · rw [e] at hp
    exact absurd hp (by simp)
  · exact ⟨g, cap, w', r, o, gr⟩
theorem sum_mono (l : List Lk) {a b : Nat} (h : a ≤ b) : sumN l a ≤ sumN l b := by
  obtain ⟨k, rfl⟩ : ∃ k, b = a + k := ⟨b - a, by omega⟩
  clear h
  induction k with
  | zero => exact Nat.le_refl _
  | succ k ih => exact Nat.le_trans ih (by rw [← Nat.add_assoc]; exact Nat.le_add_right _ _)
theorem near_lt {l : List Lk} {b : Int} {r : List Int} (h : NearIs l b r) {j : Nat} {x y : Int} (hx : r[j]? = some x) (hy : r[j + 1]? = some y) : x < y := by
  obtain ⟨h1, e1⟩ := List.getElem?_eq_some_iff.1 hx
  obtain ⟨h2, e2⟩ := List.getElem?_eq_some_iff.1 hy
  have := List.pairwise_iff_getElem.1 h.1 j (j + 1) h1 h2 (by omega)
  rwa [e1, e2] at this
set_option maxRecDepth 100000 in
set_option maxHeartbeats 8000000 in
theorem gnear_any (bn : Int) (uv mv ov_ : Value) (us ms os_ : List Int) (w : World) (hg : Fa.EG w) (hb : I64 bn) (hu : InInts w uv us) (hm : InInts w mv ms) (ho_ : InInts w ov_ os_) (lu : us.length ≤ maxLen) (lm : ms.length ≤ maxLen) (lo_ : os_.length ≤ maxLen) :
    Calls Tryd.prog 8 #[.agg #[.int .i64 bn, uv, mv], ov_] w fun e w' => e = .returned (.bool true) ∧ Below w.heap.size w w' := by
  obtain ⟨w0, hw0⟩ : ∃ w0, w0 = w.alloc (.cells #[.int .i64 bn, uv, mv] 39) := ⟨_, rfl⟩
  have B0 := Lib.hid (show Below w.heap.size w w0 by rw [hw0]; exact (Below.refl _ _).alloc (Nat.le_refl _) _)
  have E0 := Lib.hid (GE.mk (hg.bel B0.out))
  have GC := Lib.hid (graph_ok bn uv mv us ms w0 hb (hu.on B0.out) (hm.on B0.out) lu lm)
  have HW0 := Lib.hid hw0
  have O0 := Lib.hid (ho_.on B0.out)
  obtain ⟨oo, oc, rfl⟩ := ho_.shape
  have LO := Lib.hid lo_
  obtain ⟨om, hom⟩ : ∃ om, om = os_.length := ⟨_, rfl⟩
  rw [← hom] at O0 LO ⊢
  have hom47 : om ≤ maxLen := LO.out
  unfold maxLen at hom47
  have HOM := Lib.hid hom
  clear hg hb hu hm lu lm ho_ lo_ hw0 hom
  go_enter Tryd.func8, Tryd.ntmps8
  go_wp2_with fail
  rw [← HW0.out]
  refine (GC.out).mono ?_
  rintro e1 w1 ⟨⟨n, lv, l, rfl, ho, hsm⟩, hb⟩
  obtain ⟨lo, lc, rfl⟩ := (Row.of_own ho).len
  have B1 := Lib.hid (B0.out.trans (hb.mono B0.out.size))
  have E1 := Lib.hid (E0.out.on hb)
  have O1 := Lib.hid (O0.out.on hb)
  have R1 := Lib.hid (Row.of_own ho)
  clear hb B0 E0 O0
  have SG := Lib.hid hsm
  have hn1 := hsm.right.lo
  have hn7 := hsm.seven
  have hl14 := hsm.few
  obtain ⟨m, hm⟩ : ∃ m, m = l.length := ⟨_, rfl⟩
  rw [← hm] at R1 hl14 ⊢
  have HM := Lib.hid hm
  clear ho hsm GC HW0 hm
  have BA := Lib.hid ((Below.refl w1.heap.size w1).alloc (Nat.le_refl _) (.cells #[.int .i64 n, .slice lo m lc] 25))
  have X2 := Lib.hid (box_new w1 #[.int .i64 n, .slice lo m lc] 25)
  have R2 := Lib.hid (R1.out.on BA.out)
  have E2 := Lib.hid (E1.out.on BA.out)
  have O2 := Lib.hid (O1.out.on BA.out)
  have B2 := Lib.hid (B1.out.trans (BA.out.mono B1.out.size))
  obtain ⟨w2, hw2⟩ : ∃ w2, w2 = w1.alloc (.cells #[.int .i64 n, .slice lo m lc] 25) := ⟨_, rfl⟩
  rw [← hw2] at BA X2 R2 E2 O2 B2
  have hs2 : w2.heap.size = w1.heap.size + 1 := by rw [hw2]; simp
  -- the copy's box, the empty literal, the append
  have BC := Lib.hid ((Below.refl w2.heap.size w2).alloc (Nat.le_refl _) (.cells #[.int .i64 n, .slice lo m lc] 25))
  have hs3 : (w2.alloc (.cells #[.int .i64 n, .slice lo m lc] 25)).heap.size = w2.heap.size + 1 := by simp
  have BD := Lib.hid (BC.out.alloc BC.out.size (.cells #[] 22))
  have OE := own_less (B' := w2.heap.size) (by rw [hs3]; exact Nat.le_succ _) (own_made (E := EK) (w2.alloc (.cells #[.int .i64 n, .slice lo m lc] 25)))
  obtain ⟨v3, w3, r3, o3, g3⟩ := appK w2.heap.size OE (R2.out.on BD.out) (by simp) (by have := HM.out; omega) BD.out.size
  have hos : (w2.alloc (.cells #[.int .i64 n, .slice lo m lc] 25)).heap.size = w1.heap.size + 1 + 1 := by rw [hs3, hs2]
  have XB3 := Lib.hid (show Box w3 (w1.heap.size + 1) #[.int .i64 n, .slice lo m lc] 25 by
    have h1 := (box_new w2 #[.int .i64 n, .slice lo m lc] 25).more (.cells #[] 22)
    rw [hs2] at h1
    exact box_grown h1 g3 (fun e => own_ne OE h1 (by decide) e.symm))
  have B3 := Lib.hid (BD.out.grown g3 BD.out.size (fun j hj => (OE.lt j hj).1))
  rw [List.nil_append] at o3
  obtain ⟨vo, vc, rfl⟩ := (Row.of_own o3).len
  rw [← HM.out] at o3 r3
  have O3 := Lib.hid o3
  rw [hos, hw2] at r3
  have LU := Lib.hid (show w2.heap.size ≤ w1.heap.size + 1 by omega)
  have B4 := Lib.hid (show Below w2.heap.size w2 (w3.setCell ⟨w1.heap.size + 1, 1, none⟩ (.slice vo m vc)) from B3.out.setCell LU.out _)
  have I4 := Lib.hid (show OInv (w3.setCell ⟨w1.heap.size + 1, 1, none⟩ (.slice vo m vc)) w2.heap.size (w1.heap.size + 1) n l l vo m vc from ⟨by
    have h := heap_setCell_same w3 (w1.heap.size + 1) 1 #[.int .i64 n, .slice lo m lc] 25 (.slice vo m vc) XB3.out
    exact h, ownsRow_setCell_other O3.out (own_ne O3.out XB3.out (by decide)) _, SameG.refl SG.out.right, HM.out⟩)
  have x1 := XB3.out.cell 1
  have xf := XB3.out.fr 1
  have xl := XB3.out.lt
  simp only [List.getElem?_toArray, List.getElem?_cons_zero, List.getElem?_cons_succ] at x1
  clear BC hs3 BD OE o3 g3 hs2 hos B1 E1 O1 R1
  go_wp2_with (first | (at_builtin; refine wpList_append_run rfl _ _ 23 rfl rfl rfl r3 ?_) | fail)
  clear r3 x1 xf xl
  clear XB3 O3 B3
  generalize w3.setCell ⟨w1.heap.size + 1, 1, none⟩ (.slice vo m vc) = w4 at *
  go_loopw [7] (fun i wr => ∃ (k : Nat) (ls : List Lk) (vo : Option Addr) (vc : Nat), k ≤ om ∧ i = .int .i64 k ∧ Below w2.heap.size w2 wr ∧ OInv wr w2.heap.size (w1.heap.size + 1) n l ls vo m vc) (fun i _ => om - (intOf i).toNat)
  case atStart => exact ⟨0, l, vo, vc, Nat.zero_le _, rfl, B4.out, I4.out⟩
  case round =>
    clear B4 I4
    obtain ⟨k, ls, vo, vc, hk, rfl, hb, hi⟩ := hrel
    have HB := Lib.hid hb
    have HI := Lib.hid hi
    have x1 := hi.box.cell 1
    simp only [List.getElem?_toArray, List.getElem?_cons_zero, List.getElem?_cons_succ] at x1
    have xlt := hi.box.lt
    clear hb hi
    by_cases hlt : k < om
    · by_cases hm1 : 1 < m
      · obtain ⟨z, hz⟩ : ∃ z, os_[k]? = some z := ⟨_, List.getElem?_eq_getElem (by rw [← HOM.out]; exact hlt)⟩
        obtain ⟨hz64, pz, hpz, ixz, cz⟩ := (O2.out.on HB.out).at_ k z hz
        have e1 : IntKind.i64.wrap ((m : Int) - 1) = (m : Int) - 1 := IntWalk.i64_in _ (by omega)
        have d1 : decide ((k : Int) < (om : Int)) = true := by simp; omega
        have d2 : decide ((m : Int) > 1) = true := by simp; omega
        have cz' := cell_regrown cz
        have xr1 := cell_regrown x1
        have WZ := Lib.hid (within_re z 0 ((m : Int) - 1) wr (by omega) (by omega) (by omega) hz64)
        have bz := within_bd z 0 ((m : Int) - 1) (by omega)
        obtain ⟨j, hj⟩ : ∃ j : Nat, within z 0 ((m : Int) - 1) = j := ⟨(within z 0 ((m : Int) - 1)).toNat, by omega⟩
        rw [hj] at WZ bz
        clear hz hz64 hpz hj
        go_upto_region 7 with fail
        refine wp_region_quiet_below (by kernel_rfl) (by kernel_rfl) ?_
        repeat (go_big_quiet_step (first | (with_reducible exact WZ.out _ _)))
        refine wpQuiet_nil ?_
        intro _ hw'
        obtain ⟨⟨dq, osq⟩, hw''⟩ := hw'
        subst hw'' 
        have HR := Lib.hid (below_regrown wr dq osq)
        have HB7 := Lib.hid (HB.out.trans (HR.out.mono HB.out.size))
        have HI7 := Lib.hid (HI.out.on HR.out)
        clear cz cz' xr1 x1 ixz d1 d2 e1 WZ HB HI HR xlt
        generalize grow (redrawn wr dq) osq = w7 at *
        obtain ⟨x, hx⟩ : ∃ x, ls[j]? = some x := ⟨_, List.getElem?_eq_getElem (by have := HI7.out.len; omega)⟩
        have RW_ := Row.of_own HI7.out.own
        obtain ⟨p, ix, px⟩ := elK RW_ rfl HI7.out.len.symm hx
        obtain ⟨p0, p1⟩ := px _ (Below.refl _ _)
        obtain ⟨lo1, s1, hlo⟩ := row_lo okK RW_ j (by have := HI7.out.len; omega)
        obtain ⟨hi1, s2, hhi⟩ := row_hi okK RW_ (j + 1) (by have := HI7.out.len; omega)
        have BL := Lib.hid ((Below.refl w7.heap.size w7).alloc (Nat.le_refl _) (.cells #[.int .i64 x.1, .int .i64 x.2] 22))
        have NL := Lib.hid (box_new w7 #[.int .i64 x.1, .int .i64 x.2] 22)
        have HX := Lib.hid hx
        have y1 := HI7.out.box.cell 1
        simp only [List.getElem?_toArray, List.getElem?_cons_zero, List.getElem?_cons_succ] at y1
        have HI8 := Lib.hid (HI7.out.on BL.out)
        have HB8 := Lib.hid (HB7.out.trans (BL.out.mono HB7.out.size))
        have LO8 := Lib.hid (hlo.on BL.out)
        have HI_ := Lib.hid (hhi.on BL.out)
        clear px hx RW_ hlo hhi
        have S1 := Lib.hid s1
        have S2 := Lib.hid s2
        clear s1 s2
        go_upto_region 9 with fail
        clear p0 p1 ix y1 HI7 HB7
        generalize w7.alloc (.cells #[.int .i64 x.1, .int .i64 x.2] 22) = u at *
        have s1 : ∀ w, (Instr.sliceAt 23 (.slice vo m vc) none (some (.int .i64 j)) none).run Tryd.prog w = .ok lo1 w := S1.out
        have s2 : ∀ w, (Instr.sliceAt 23 (.slice vo m vc) (some (.int .i64 ((j : Int) + 1))) none none).run Tryd.prog w = .ok hi1 w := S2.out
        -- the runs
        have o0 := row_lit okK u.drew [(x.2, x.1)] 1 rfl (by simp) #[.int .i64 x.2, .int .i64 x.1] rfl
        have b0 : Below u.heap.size u (u.drew.alloc (.cells #[.int .i64 x.2, .int .i64 x.1] 22)) := (Below.refl _ _).drew.alloc (Nat.le_refl _) _
        have hls : ls.length ≤ 14 := by have := HI8.out.len; omega
        obtain ⟨g1, c1, wa, r1, oa, ga⟩ := app_form u.heap.size o0 (LO8.out.on b0) (by simp) (by simp; omega) b0.size (by simp)
        have ba := b0.grown ga b0.size (fun i hi => (o0.lt i hi).1)
        obtain ⟨g2, c2, wb, r2, ob, gb⟩ := app_form u.heap.size oa (HI_.out.on ba) (by simp; omega) (by simp; omega) ba.size (by simp)
        have bb := ba.grown gb ba.size (fun i hi => (oa.lt i hi).1)
        have hll : ([(x.2, x.1)] ++ ls.take j ++ ls.drop (j + 1)).length = m := by have := HI8.out.len; simp; omega
        rw [hll] at r2 ob
        have SM := Lib.hid (HI8.out.same.turn HX.out)
        have XU := Lib.hid HI8.out.box
        have XA := Lib.hid (XU.out.on ba)
        have XBB := Lib.hid (XU.out.on bb)
        have NA := Lib.hid (NL.out.on ba)
        have BB := Lib.hid (HB8.out.trans (bb.mono HB8.out.size))
        have xbf := XBB.out.fr 1
        have HC := Lib.hid (show ∀ w, w = u.drew ∨ w = u.drew.alloc (.cells #[.int .i64 x.2, .int .i64 x.1] 22) ∨ w = wa ∨ w = wb → w.cell? ⟨w7.heap.size, 0, none⟩ = some (.int .i64 x.1) ∧ w.cell? ⟨w7.heap.size, 1, none⟩ = some (.int .i64 x.2) ∧ w.cell? ⟨w1.heap.size + 1, 1, none⟩ = some (.slice vo m vc) from by
          have key : ∀ w, Below u.heap.size u w → w.cell? ⟨w7.heap.size, 0, none⟩ = some (.int .i64 x.1) ∧ w.cell? ⟨w7.heap.size, 1, none⟩ = some (.int .i64 x.2) ∧ w.cell? ⟨w1.heap.size + 1, 1, none⟩ = some (.slice vo m vc) := fun w hb => ⟨(NL.out.on hb).cell 0, (NL.out.on hb).cell 1, (XU.out.on hb).cell 1⟩
          rintro w (rfl | rfl | rfl | rfl)
          · exact key _ (Below.refl _ _).drew
          · exact key _ b0
          · exact key _ ba
          · exact key _ bb)
        have I9 := Lib.hid (show OInv (wb.setCell ⟨w1.heap.size + 1, 1, none⟩ (.slice (some ⟨g2, 0, none⟩) m c2)) w2.heap.size (w1.heap.size + 1) n l (turnL ls j x) (some ⟨g2, 0, none⟩) m c2 from ⟨heap_setCell_same wb (w1.heap.size + 1) 1 #[.int .i64 n, .slice vo m vc] 25 (.slice (some ⟨g2, 0, none⟩) m c2) XBB.out, ownsRow_setCell_other (own_less HB8.out.size ob) (own_ne ob XBB.out (by decide)) _, SM.out, by have h1 := SM.out.len; have h2 := HI8.out.same.len; have h3 := HI8.out.len; omega⟩)
        have B9 := Lib.hid (show Below w2.heap.size w2 (wb.setCell ⟨w1.heap.size + 1, 1, none⟩ (.slice (some ⟨g2, 0, none⟩) m c2)) from BB.out.setCell LU.out _)
        clear o0 b0 oa ga ba ob gb bb hll XU XA XBB NA LO8 HI_ S1 S2 NL BL HX BB SM HI8 HB8 hls
        refine near_r9 _ u wa wb (w1.heap.size + 1) w7.heap.size j m _ m x vo vc g1 c1 g2 c2 lo1 hi1 _ _ _ _ _ _ _ _ _ _ _ _ _ _ _ _ _ _ _ _ _ _ _ _ _ _ _ _ _ _ _ _ _ _ _ _ _ _ _ _ _ _ _ _ _ _ _ _ _ _ _ _ _ _ _ _ _ _ _ _ _ _ _ _ _ _ _ _ _ _ _ _ _ _ _ _ _ _ _ _ _ _ _ _ _ _ _ _ _ _ _ _ _ _ _ _ _ _ _ _ _ _ _ _ _ _ _ _ _ _ _ _ _ _ _ _ _ _ _ _ _ _ _ _ _ _ _ _ _ _ _ _ _ _ r1 r2 s1 s2 (by omega) HC.out xbf ?_
        intro v49 v50 v51 v52 v53 v54 v55 v56 v57 v58 v59 v60 v61 v62 v63 v64 v65 v66
        clear r1 r2 s1 s2 xbf HC
        generalize wb.setCell ⟨w1.heap.size + 1, 1, none⟩ (.slice (some ⟨g2, 0, none⟩) m c2) = w9 at *
        go_wp2
        go_roundw
        case rel => first
          | exact ⟨k + 1, turnL ls j x, some ⟨g2, 0, none⟩, c2, by omega, by go_num, B9.out, I9.out⟩
          | ((repeat apply Exists.intro); exact ⟨⟨k + 1, turnL ls j x, some ⟨g2, 0, none⟩, c2, by omega, rfl, B9.out, I9.out⟩, rfl⟩)
        case measure => simp [intOf]; omega
      · have d1 : decide ((k : Int) < (om : Int)) = true := decide_eq_true (by omega)
        have d2 : decide ((m : Int) > 1) = false := decide_eq_false (by omega)
        have W5 := Lib.hid (show ∃ w5 : World, w5 = wr from ⟨_, rfl⟩)
        clear W5
        have E5 := Lib.hid (E2.out.on HB.out)
        have X5 := Lib.hid (X2.out.on HB.out)
        have R5 := Lib.hid (R2.out.on HB.out)
        have B5 := Lib.hid (B2.out.trans (HB.out.mono B2.out.size))
        have RO := Lib.hid (Row.of_own HI.out.own)
        have XO := Lib.hid HI.out.box
        have SM := Lib.hid HI.out.same
        clear HB HI O2 E2 R2 X2 B2
        have a0 := X5.out.cell 0
        simp only [List.getElem?_toArray, List.getElem?_cons_zero] at a0
        go_wp2
        obtain ⟨w5, rfl⟩ : ∃ w5 : World, w5 = wr := ⟨_, rfl⟩
        clear a0 x1 xlt
        obtain ⟨N, rfl⟩ : ∃ N : Nat, n = N := ⟨n.toNat, by omega⟩
        go_loopw [10, 69] (fun sv i wr => ∃ b : Nat, b ≤ N ∧ sv = .int .i64 (sumN l b) ∧ i = .int .i64 b ∧ Below w5.heap.size w5 wr) (fun _ i _ => N - (intOf i).toNat)
        case atStart => exact ⟨0, Nat.zero_le _, rfl, rfl, Below.refl _ _⟩
        case round =>
          obtain ⟨b, hbN, rfl, rfl, hb⟩ := hrel
          have HB := Lib.hid hb
          clear hb
          have X6 := Lib.hid (X5.out.on HB.out)
          have R6 := Lib.hid (R5.out.on HB.out)
          have E6 := Lib.hid (E5.out.on HB.out)
          have Y6 := Lib.hid (XO.out.on HB.out)
          have Q6 := Lib.hid (RO.out.on HB.out)
          by_cases hltb : b < N
          · have a0 := X6.out.cell 0
            have a1 := X6.out.cell 1
            simp only [List.getElem?_toArray, List.getElem?_cons_zero, List.getElem?_cons_succ] at a0 a1
            have C1 := Lib.hid (near_ok N (.slice lo m lc) l b wr R6.out ⟨SG.out.right.ok, SG.out.right.simp⟩ (by have := SG.out.few; omega))
            go_wp2_with fail
            refine C1.out.mono ?_
            rintro e7 w7 ⟨⟨nv, r, rfl, hr, hnr⟩, hb7⟩
            have HB7 := Lib.hid (HB.out.trans (hb7.mono HB.out.size))
            have N7 := Lib.hid (Row.of_own hr)
            have NR := Lib.hid hnr
            have X7 := Lib.hid (X6.out.on hb7)
            have R7 := Lib.hid (R6.out.on hb7)
            have Y7 := Lib.hid (Y6.out.on hb7)
            have Q7 := Lib.hid (Q6.out.on hb7)
            clear a0 a1 C1 hr hnr hb7 X6 R6 Y6 Q6 E6 HB
            have a0 := Y7.out.cell 0
            have a1 := Y7.out.cell 1
            simp only [List.getElem?_toArray, List.getElem?_cons_zero, List.getElem?_cons_succ] at a0 a1
            have C1 := Lib.hid (near_ok N (.slice vo m vc) ls b w7 Q7.out ⟨SM.out.right.ok, SM.out.right.simp⟩ (by have := SM.out.right.few; omega))
            go_wp2_with fail
            refine C1.out.mono ?_
            rintro e8 w8 ⟨⟨nv2, r2, rfl, hr, hnr⟩, hb8⟩
            obtain rfl := NR.out.uniq (hnr.same SM.out.adj)
            have N8 := Lib.hid (Row.of_own hr)
            have M8 := Lib.hid (N7.out.on hb8)
            have HB8 := Lib.hid (HB7.out.trans (hb8.mono HB7.out.size))
            have X8 := Lib.hid (X7.out.on hb8)
            have R8 := Lib.hid (R7.out.on hb8)
            clear a0 a1 C1 hr hnr hb8 X7 R7 Y7 Q7 N7 HB7
            have hrl : r.length ≤ 28 := by
              have h1 := near_size NR.out SG.out.right.simp
              have h2 := near_len b l
              have h3 := SG.out.few
              omega
            have C2 := Lib.hid (sameI_any nv nv2 r w8 M8.out N8.out (by omega))
            go_wp2_with fail
            refine C2.out.mono ?_
            rintro e9 w9 ⟨rfl, hb9⟩
            have M9 := Lib.hid (M8.out.on hb9)
            have HB9 := Lib.hid (HB8.out.trans (hb9.mono HB8.out.size))
            have X9 := Lib.hid (X8.out.on hb9)
            have R9 := Lib.hid (R8.out.on hb9)
            clear C2 hb9 X8 R8 HB8 M8 N8
            obtain ⟨no, nc, rfl⟩ := M9.out.len
            obtain ⟨q, hq⟩ : ∃ q, q = r.length := ⟨_, rfl⟩
            rw [← hq] at M9 hrl ⊢
            have HQ := Lib.hid hq
            have SZ := Lib.hid (show sumN l (b + 1) = sumN l b + q by rw [hq, near_size NR.out SG.out.right.simp]; rfl)
            have hsb : sumN l b ≤ 28 := by
              have h1 : sumN l N = 2 * l.length := sum_all SG.out.right.ok
              have h2 : sumN l b ≤ sumN l N := sum_mono l hbN
              have h3 := SG.out.few
              omega
            clear hq
            go_wp2
            go_loopw [83] (fun i wr => ∃ j : Nat, j ≤ q ∧ i = .int .i64 j ∧ Below w9.heap.size w9 wr) (fun i _ => q - (intOf i).toNat)
            case atStart => exact ⟨0, Nat.zero_le _, rfl, Below.refl _ _⟩
            case round =>
              obtain ⟨j, hj, rfl, hb⟩ := hrel
              have HC := Lib.hid hb
              clear hb
              have MA := Lib.hid (M9.out.on HC.out)
              have XA := Lib.hid (X9.out.on HC.out)
              have RA := Lib.hid (R9.out.on HC.out)
              by_cases hltj : j < q
              · obtain ⟨x, hx⟩ : ∃ x, r[j]? = some x := ⟨_, List.getElem?_eq_getElem (by rw [← HQ.out]; exact hltj)⟩
                have hadj := (NR.out.2 x).1 (List.mem_of_getElem? hx)
                have hxr := (SG.out.right.ok.adj hadj).2
                have hxb : ¬ x = (b : Int) := fun e => by
                  subst e
                  rcases hadj with h5 | h5
                  · exact SG.out.right.simp.2 _ h5 rfl
                  · exact SG.out.right.simp.2 _ h5 rfl
                have CL := Lib.hid (linked_any N (.slice lo m lc) l x b wr RA.out SG.out.right.ok)
                rw [adjB_iff.2 hadj.symm] at CL
                obtain ⟨pp, ix, _, px⟩ := elI MA.out rfl HQ.out.symm hx
                have p0 := px _ (Below.refl _ _)
                have a0 := XA.out.cell 0
                have a1 := XA.out.cell 1
                simp only [List.getElem?_toArray, List.getElem?_cons_zero, List.getElem?_cons_succ] at a0 a1
                have ee : (x == (b : Int)) = false := by simpa using hxb
                have HX := Lib.hid hx
                clear px hadj hxb hx
                rcases Nat.eq_zero_or_pos j with rfl | hpos
                · have ix0 : ∀ w, (Instr.indexAt 30 (.slice no q nc) (.int .i64 0)).run Tryd.prog w = .ok (.pointer (some pp)) w := ix
                  clear ix
                  go_wp2_with fail
                  refine CL.out.mono ?_
                  rintro e10 w10 ⟨rfl, hb10⟩
                  have HD := Lib.hid (HC.out.trans (hb10.mono HC.out.size))
                  clear hb10 p0 a0 a1 ix0
                  go_wp2
                  go_roundw
                  case rel => exact ⟨1, by omega, by go_num, HD.out⟩
                  case measure => simp [intOf]; omega
                · obtain ⟨i, rfl⟩ : ∃ i, j = i + 1 := ⟨j - 1, by omega⟩
                  have ix0 : ∀ w, (Instr.indexAt 30 (.slice no q nc) (.int .i64 ((i : Int) + 1))).run Tryd.prog w = .ok (.pointer (some pp)) w := ix
                  clear ix
                  obtain ⟨y, hy⟩ : ∃ y, r[i]? = some y := ⟨_, List.getElem?_eq_getElem (by rw [← HQ.out]; omega)⟩
                  have hyx := near_lt NR.out hy HX.out
                  obtain ⟨pq, iy, _, py⟩ := elI MA.out rfl HQ.out.symm hy
                  have q0 := py _ (Below.refl _ _)
                  have e1 : IntKind.i64.wrap ((i : Int) + 1 - 1) = (i : Int) := by rw [Int.add_sub_cancel]; exact IntWalk.i64_in _ (by omega)
                  have e2 : IntKind.i64.wrap (i : Int) = (i : Int) := IntWalk.i64_in _ (by omega)
                  have e3 : decide ((i : Int) + 1 > 0) = true := decide_eq_true (by omega)
                  have e4 : decide (y ≥ x) = false := decide_eq_false (by omega)
                  clear py hy hyx
                  go_wp2_with fail
                  refine CL.out.mono ?_
                  rintro e10 w10 ⟨rfl, hb10⟩
                  have HD := Lib.hid (HC.out.trans (hb10.mono HC.out.size))
                  clear hb10 p0 q0 a0 a1 ix0 iy e1 e2 e3 e4
                  go_wp2
                  go_roundw
                  case rel => exact ⟨i + 1 + 1, by omega, by go_num, HD.out⟩
                  case measure => simp [intOf]; omega
              · obtain rfl : j = q := by omega
                have BN := Lib.hid (HB9.out.trans (HC.out.mono HB9.out.size))
                have eS : ((sumN l (b + 1) : Nat) : Int) = (sumN l b : Int) + (j : Int) := by rw [SZ.out]; simp
                have ES := Lib.hid eS
                clear eS
                obtain ⟨sb, hsbe⟩ : ∃ sb : Nat, sb = sumN l b := ⟨_, rfl⟩
                rw [← hsbe] at hsb ES
                rw [show (sumN l b) = sb from hsbe.symm]
                clear hsbe
                go_wp2
                go_roundw
                case rel => exact ⟨b + 1, by omega, by rw [ES.out], by go_num, BN.out⟩
                case measure => simp [intOf]; omega
          · obtain rfl : b = N := by omega
            have SA := Lib.hid (show sumN l b = 2 * l.length from sum_all SG.out.right.ok)
            obtain ⟨sb, hsb⟩ : ∃ sb : Nat, sb = sumN l b := ⟨_, rfl⟩
            rw [← hsb] at SA ⊢
            have BW := Lib.hid (B5.out.trans (HB.out.mono B5.out.size))
            clear hsb HB
            go_upto_region 25 with fail
            refine near_r25 _ wr w1.heap.size (w1.heap.size + 1) sb b l ls lo vo m lc vc _ _ _ _ _ _ _ _ _ _ _ _ _ _ _ _ _ _ _ _ _ _ _ _ _ _ _ _ _ _ _ _ _ _ _ _ _ _ _ _ _ _ _ _ _ _ _ _ _ _ _ _ _ _ _ _ _ _ _ _ _ _ _ _ _ _ _ _ _ _ _ _ _ _ _ _ _ _ _ _ _ _ _ _ _ _ _ _ _ _ _ _ _ _ _ _ _ _ _ _ _ _ _ _ _ _ _ _ _ _ _ _ _ _ _ _ _ _ _ _ _ _ _ _ _ _ _ _ _ _ _ _ _ _ X6.out Y6.out R6.out Q6.out SG.out.right SM.out E6.out SA.out ?_
            intro a w' h1 h2 hb
            simp only [Exit.then]
            apply_assumption
            refine wp_ret (bodyPost_ret (results_tmp rfl _ _ _) h1 ⟨?_, BW.out.trans (hb.mono BW.out.size)⟩)
            rw [Array.getD_eq_getD_getElem?, h2]
            rfl
    · have d1 : decide ((k : Int) < (om : Int)) = false := decide_eq_false (by omega)
      have W5 := Lib.hid (show ∃ w5 : World, w5 = wr from ⟨_, rfl⟩)
      clear W5
      have E5 := Lib.hid (E2.out.on HB.out)
      have X5 := Lib.hid (X2.out.on HB.out)
      have R5 := Lib.hid (R2.out.on HB.out)
      have B5 := Lib.hid (B2.out.trans (HB.out.mono B2.out.size))
      have RO := Lib.hid (Row.of_own HI.out.own)
      have XO := Lib.hid HI.out.box
      have SM := Lib.hid HI.out.same
      clear HB HI O2 E2 R2 X2 B2
      have a0 := X5.out.cell 0
      simp only [List.getElem?_toArray, List.getElem?_cons_zero] at a0
      go_wp2
      obtain ⟨w5, rfl⟩ : ∃ w5 : World, w5 = wr := ⟨_, rfl⟩
      clear a0 x1 xlt
      obtain ⟨N, rfl⟩ : ∃ N : Nat, n = N := ⟨n.toNat, by omega⟩
      go_loopw [10, 69] (fun sv i wr => ∃ b : Nat, b ≤ N ∧ sv = .int .i64 (sumN l b) ∧ i = .int .i64 b ∧ Below w5.heap.size w5 wr) (fun _ i _ => N - (intOf i).toNat)
      case atStart => exact ⟨0, Nat.zero_le _, rfl, rfl, Below.refl _ _⟩
      case round =>
        obtain ⟨b, hbN, rfl, rfl, hb⟩ := hrel
        have HB := Lib.hid hb
        clear hb
        have X6 := Lib.hid (X5.out.on HB.out)
        have R6 := Lib.hid (R5.out.on HB.out)
        have E6 := Lib.hid (E5.out.on HB.out)
        have Y6 := Lib.hid (XO.out.on HB.out)
        have Q6 := Lib.hid (RO.out.on HB.out)
        by_cases hltb : b < N
        · have a0 := X6.out.cell 0
          have a1 := X6.out.cell 1
          simp only [List.getElem?_toArray, List.getElem?_cons_zero, List.getElem?_cons_succ] at a0 a1
          have C1 := Lib.hid (near_ok N (.slice lo m lc) l b wr R6.out ⟨SG.out.right.ok, SG.out.right.simp⟩ (by have := SG.out.few; omega))
          go_wp2_with fail
          refine C1.out.mono ?_
          rintro e7 w7 ⟨⟨nv, r, rfl, hr, hnr⟩, hb7⟩
          have HB7 := Lib.hid (HB.out.trans (hb7.mono HB.out.size))
          have N7 := Lib.hid (Row.of_own hr)
          have NR := Lib.hid hnr
          have X7 := Lib.hid (X6.out.on hb7)
          have R7 := Lib.hid (R6.out.on hb7)
          have Y7 := Lib.hid (Y6.out.on hb7)
          have Q7 := Lib.hid (Q6.out.on hb7)
          clear a0 a1 C1 hr hnr hb7 X6 R6 Y6 Q6 E6 HB
          have a0 := Y7.out.cell 0
          have a1 := Y7.out.cell 1
          simp only [List.getElem?_toArray, List.getElem?_cons_zero, List.getElem?_cons_succ] at a0 a1
          have C1 := Lib.hid (near_ok N (.slice vo m vc) ls b w7 Q7.out ⟨SM.out.right.ok, SM.out.right.simp⟩ (by have := SM.out.right.few; omega))
          go_wp2_with fail
          refine C1.out.mono ?_
          rintro e8 w8 ⟨⟨nv2, r2, rfl, hr, hnr⟩, hb8⟩
          obtain rfl := NR.out.uniq (hnr.same SM.out.adj)
          have N8 := Lib.hid (Row.of_own hr)
          have M8 := Lib.hid (N7.out.on hb8)
          have HB8 := Lib.hid (HB7.out.trans (hb8.mono HB7.out.size))
          have X8 := Lib.hid (X7.out.on hb8)
          have R8 := Lib.hid (R7.out.on hb8)
          clear a0 a1 C1 hr hnr hb8 X7 R7 Y7 Q7 N7 HB7
          have hrl : r.length ≤ 28 := by
            have h1 := near_size NR.out SG.out.right.simp
            have h2 := near_len b l
            have h3 := SG.out.few
            omega
          have C2 := Lib.hid (sameI_any nv nv2 r w8 M8.out N8.out (by omega))
          go_wp2_with fail
          refine C2.out.mono ?_
          rintro e9 w9 ⟨rfl, hb9⟩
          have M9 := Lib.hid (M8.out.on hb9)
          have HB9 := Lib.hid (HB8.out.trans (hb9.mono HB8.out.size))
          have X9 := Lib.hid (X8.out.on hb9)
          have R9 := Lib.hid (R8.out.on hb9)
          clear C2 hb9 X8 R8 HB8 M8 N8
          obtain ⟨no, nc, rfl⟩ := M9.out.len
          obtain ⟨q, hq⟩ : ∃ q, q = r.length := ⟨_, rfl⟩
          rw [← hq] at M9 hrl ⊢
          have HQ := Lib.hid hq
          have SZ := Lib.hid (show sumN l (b + 1) = sumN l b + q by rw [hq, near_size NR.out SG.out.right.simp]; rfl)
          have hsb : sumN l b ≤ 28 := by
            have h1 : sumN l N = 2 * l.length := sum_all SG.out.right.ok
            have h2 : sumN l b ≤ sumN l N := sum_mono l hbN
            have h3 := SG.out.few
            omega
          clear hq
          go_wp2
          go_loopw [83] (fun i wr => ∃ j : Nat, j ≤ q ∧ i = .int .i64 j ∧ Below w9.heap.size w9 wr) (fun i _ => q - (intOf i).toNat)
          case atStart => exact ⟨0, Nat.zero_le _, rfl, Below.refl _ _⟩
          case round =>
            obtain ⟨j, hj, rfl, hb⟩ := hrel
            have HC := Lib.hid hb
            clear hb
            have MA := Lib.hid (M9.out.on HC.out)
            have XA := Lib.hid (X9.out.on HC.out)
            have RA := Lib.hid (R9.out.on HC.out)
            by_cases hltj : j < q
            · obtain ⟨x, hx⟩ : ∃ x, r[j]? = some x := ⟨_, List.getElem?_eq_getElem (by rw [← HQ.out]; exact hltj)⟩
              have hadj := (NR.out.2 x).1 (List.mem_of_getElem? hx)
              have hxr := (SG.out.right.ok.adj hadj).2
              have hxb : ¬ x = (b : Int) := fun e => by
                subst e
                rcases hadj with h5 | h5
                · exact SG.out.right.simp.2 _ h5 rfl
                · exact SG.out.right.simp.2 _ h5 rfl
              have CL := Lib.hid (linked_any N (.slice lo m lc) l x b wr RA.out SG.out.right.ok)
              rw [adjB_iff.2 hadj.symm] at CL
              obtain ⟨pp, ix, _, px⟩ := elI MA.out rfl HQ.out.symm hx
              have p0 := px _ (Below.refl _ _)
              have a0 := XA.out.cell 0
              have a1 := XA.out.cell 1
              simp only [List.getElem?_toArray, List.getElem?_cons_zero, List.getElem?_cons_succ] at a0 a1
              have ee : (x == (b : Int)) = false := by simpa using hxb
              have HX := Lib.hid hx
              clear px hadj hxb hx
              rcases Nat.eq_zero_or_pos j with rfl | hpos
              · have ix0 : ∀ w, (Instr.indexAt 30 (.slice no q nc) (.int .i64 0)).run Tryd.prog w = .ok (.pointer (some pp)) w := ix
                clear ix
                go_wp2_with fail
                refine CL.out.mono ?_
                rintro e10 w10 ⟨rfl, hb10⟩
                have HD := Lib.hid (HC.out.trans (hb10.mono HC.out.size))
                clear hb10 p0 a0 a1 ix0
                go_wp2
                go_roundw
                case rel => exact ⟨1, by omega, by go_num, HD.out⟩
                case measure => simp [intOf]; omega
              · obtain ⟨i, rfl⟩ : ∃ i, j = i + 1 := ⟨j - 1, by omega⟩
                have ix0 : ∀ w, (Instr.indexAt 30 (.slice no q nc) (.int .i64 ((i : Int) + 1))).run Tryd.prog w = .ok (.pointer (some pp)) w := ix
                clear ix
                obtain ⟨y, hy⟩ : ∃ y, r[i]? = some y := ⟨_, List.getElem?_eq_getElem (by rw [← HQ.out]; omega)⟩
                have hyx := near_lt NR.out hy HX.out
                obtain ⟨pq, iy, _, py⟩ := elI MA.out rfl HQ.out.symm hy
                have q0 := py _ (Below.refl _ _)
                have e1 : IntKind.i64.wrap ((i : Int) + 1 - 1) = (i : Int) := by rw [Int.add_sub_cancel]; exact IntWalk.i64_in _ (by omega)
                have e2 : IntKind.i64.wrap (i : Int) = (i : Int) := IntWalk.i64_in _ (by omega)
                have e3 : decide ((i : Int) + 1 > 0) = true := decide_eq_true (by omega)
                have e4 : decide (y ≥ x) = false := decide_eq_false (by omega)
                clear py hy hyx
                go_wp2_with fail
                refine CL.out.mono ?_
                rintro e10 w10 ⟨rfl, hb10⟩
                have HD := Lib.hid (HC.out.trans (hb10.mono HC.out.size))
                clear hb10 p0 q0 a0 a1 ix0 iy e1 e2 e3 e4
                go_wp2
                go_roundw
                case rel => exact ⟨i + 1 + 1, by omega, by go_num, HD.out⟩
                case measure => simp [intOf]; omega
            · obtain rfl : j = q := by omega
              have BN := Lib.hid (HB9.out.trans (HC.out.mono HB9.out.size))
              have eS : ((sumN l (b + 1) : Nat) : Int) = (sumN l b : Int) + (j : Int) := by rw [SZ.out]; simp
              have ES := Lib.hid eS
              clear eS
              obtain ⟨sb, hsbe⟩ : ∃ sb : Nat, sb = sumN l b := ⟨_, rfl⟩
              rw [← hsbe] at hsb ES
              rw [show (sumN l b) = sb from hsbe.symm]
              clear hsbe
              go_wp2
              go_roundw
              case rel => exact ⟨b + 1, by omega, by rw [ES.out], by go_num, BN.out⟩
              case measure => simp [intOf]; omega
        · obtain rfl : b = N := by omega
          have SA := Lib.hid (show sumN l b = 2 * l.length from sum_all SG.out.right.ok)
          obtain ⟨sb, hsb⟩ : ∃ sb : Nat, sb = sumN l b := ⟨_, rfl⟩
          rw [← hsb] at SA ⊢
          have BW := Lib.hid (B5.out.trans (HB.out.mono B5.out.size))
          clear hsb HB
          go_upto_region 25 with fail
          refine near_r25 _ wr w1.heap.size (w1.heap.size + 1) sb b l ls lo vo m lc vc _ _ _ _ _ _ _ _ _ _ _ _ _ _ _ _ _ _ _ _ _ _ _ _ _ _ _ _ _ _ _ _ _ _ _ _ _ _ _ _ _ _ _ _ _ _ _ _ _ _ _ _ _ _ _ _ _ _ _ _ _ _ _ _ _ _ _ _ _ _ _ _ _ _ _ _ _ _ _ _ _ _ _ _ _ _ _ _ _ _ _ _ _ _ _ _ _ _ _ _ _ _ _ _ _ _ _ _ _ _ _ _ _ _ _ _ _ _ _ _ _ _ _ _ _ _ _ _ _ _ _ _ _ _ X6.out Y6.out R6.out Q6.out SG.out.right SM.out E6.out SA.out ?_
          intro a w' h1 h2 hb
          simp only [Exit.then]
          apply_assumption
          refine wp_ret (bodyPost_ret (results_tmp rfl _ _ _) h1 ⟨?_, BW.out.trans (hb.mono BW.out.size)⟩)
          rw [Array.getD_eq_getD_getElem?, h2]
          rfl
end Go.Proofs.YtbnfndcbhnjnaaaDoor.Gr
