/-
  GraphBad's switch: four ways in which a graph may not be, each told at its place. Conditions: as the theorem states them.
-/
import Derived.Test.YtbnfndcbhnjnaaaDoorGsBadT
import Derived.Test.YtbnfndcbhnjnaaaDoorGsBadS
namespace Go.Proofs.YtbnfndcbhnjnaaaDoor.Gr
open Go.RowKit Go.Sort Go.Proofs.YtbnfndcbhnjnaaaDoor Go.Proofs.YtbnfndcbhnjnaaaDoor.Rw Go.Proofs.YtbnfndcbhnjnaaaDoor.Wi

theorem box_other {W : World} {b d k : Nat} {cs : Array Value} {t : TypeId} (h : Box W d cs t) (hne : d ≠ b) (v : Value) : Box (W.setCell ⟨b, k, none⟩ v) d cs t := by
  unfold Box at h ⊢
  rw [RowKit.Below.heap_setCell _ _ _ _ hne]
  exact h
theorem own_set {W : World} {B b k : Nat} {s : Value} {l : List Lk} {cs : Array Value} {t : TypeId} (h : OwnK W B s l) (hx : Box W b cs t) (ht : t ≠ 22) (v : Value) : OwnK (W.setCell ⟨b, k, none⟩ v) B s l := ownsRow_setCell_other h (own_ne h hx ht) _
/-- A graph stored into a variable. -/
theorem put_graph {w W : World} {bb : Nat} {n' : Int} {s' : Value} (hbx : Box W bb #[.int .i64 n', s'] 25) (hbb : w.heap.size ≤ bb) (hb : Below w.heap.size w W) (n : Int) (s : Value) :
    Box ((W.setCell ⟨bb, 0, none⟩ (.int .i64 n)).setCell ⟨bb, 1, none⟩ s) bb #[.int .i64 n, s] 25 ∧ Below w.heap.size w ((W.setCell ⟨bb, 0, none⟩ (.int .i64 n)).setCell ⟨bb, 1, none⟩ s) ∧ (∀ d cs t, Box W d cs t → d ≠ bb → Box ((W.setCell ⟨bb, 0, none⟩ (.int .i64 n)).setCell ⟨bb, 1, none⟩ s) d cs t) ∧ (∀ B v l, OwnK W B v l → OwnK ((W.setCell ⟨bb, 0, none⟩ (.int .i64 n)).setCell ⟨bb, 1, none⟩ s) B v l) := by
  have h1 := heap_setCell_same W bb 0 #[.int .i64 n', s'] 25 (.int .i64 n) hbx
  have h2 := heap_setCell_same _ bb 1 _ 25 s h1
  exact ⟨h2, (hb.setCell hbb _).setCell hbb _, fun d cs t h hne => box_other (box_other h hne _) hne _, fun B v l h => own_set (own_set h hbx (by decide) _) h1 (by decide) _⟩
theorem chain_fin {V : World} {lo : Value} {x : Lk} {a : List Lk} {e li v1 v2 : Nat → Value} {wof : Nat → Nat → World} (h : Chain V lo x a e li v1 v2 wof) (fin : World → Value → World) :
    ∃ wof', Chain V lo x a e li v1 v2 wof' ∧ ∀ p, wof' p 4 = fin (wof' p 3) (v2 p) := by
  obtain ⟨wof', hwof⟩ : ∃ wof' : Nat → Nat → World, wof' = fun p s => if s ≤ 3 then wof p s else fin (wof p 3) (v2 p) := ⟨_, rfl⟩
  have lo3 : ∀ p s, s ≤ 3 → wof' p s = wof p s := fun p s hs => by rw [hwof]; simp [hs]
  refine ⟨wof', ⟨?_, ?_, ?_, ?_, ?_, h.e1, h.e2, h.e3, ?_, ?_⟩, fun p => by rw [lo3 p 3 (by omega), hwof]; simp⟩
  · rw [lo3 _ _ (by omega)]; exact h.h30
  · intro p hp; rw [lo3 _ _ (by omega), lo3 _ _ (by omega)]; exact h.h1 p hp
  · intro p hp; rw [lo3 _ _ (by omega), lo3 _ _ (by omega)]; exact h.h2 p hp
  · intro p hp; rw [lo3 _ _ (by omega), lo3 _ _ (by omega)]; exact h.h3 p hp
  · intro s hs; rw [lo3 _ _ (by omega), lo3 _ _ (by omega)]; exact h.hL s hs
  · intro p hp; rw [lo3 _ _ (by omega)]; exact h.own p hp
  · intro p s hp hs hps; rw [lo3 _ _ (by omega)]; exact h.bel p s hp hs hps
noncomputable def badSW : Code := .seq (headN 7 (Tryd.f6.body.getD .skip)) badR19
set_option maxRecDepth 100000 in
set_option maxHeartbeats 8000000 in
theorem bad_7 (w W : World) (B gb ib bb m i g k c : Nat) (n v what ai : Int) (l : List Lk) (lo : Option Addr) (lc : Nat) (u0 u2 u4 u5 u6 u7 u8 u16 u17 u18 u19 u20 u21 u22 u23 u24 u25 u26 u27 u28 u29 u30 u31 u32 u33 u34 u35 u36 u37 u38 u39 u40 u41 u42 u43 u44 u45 u46 u47 u48 u49 u50 u51 u52 u53 u54 u55 u56 u57 u58 u59 u60 u61 u62 u63 u64 u65 u66 u67 u68 u69 u70 u71 u72 u73 u74 u75 u76 u77 u78 u79 u80 u81 u82 u83 u84 u85 u86 u87 u88 u89 u90 u91 u92 u93 u94 u95 u96 u97 u98 u99 u100 u101 u102 u103 u104 u105 u106 : Value)
    (hb : Below w.heap.size w W) (hg : GE w) (hx : Box W gb #[.int .i64 n, .slice lo m lc] 25) (hi : Box W ib #[.int .i64 i] 3) (ho : OwnK W B (.slice lo m lc) l) (hm : m = l.length) (hs : SmallG n l)
    (hbx : Box W bb #[.int .i64 n, .slice (some ⟨g, 0, none⟩) k c] 25) (hbo : OwnK W B (.slice (some ⟨g, 0, none⟩) k c) (l.take i ++ (v, v) :: l.drop i)) (hbb : w.heap.size ≤ bb) (n1 : gb ≠ bb) (_n2 : ib ≠ bb) (_hv : 0 ≤ v ∧ v < n) (him : i ≤ m) (hwh : I64 what) (hai : I64 ai) :
    Code.wp Tryd.prog badSW (bodyPost Tryd.prog Tryd.f6 fun e w' => e = .returned (.bool true) ∧ Below w.heap.size w w') ⟨(u0 :: .int .i64 what :: u2 :: .int .i64 ai :: u4 :: u5 :: u6 :: u7 :: u8 :: .pointer (some ⟨gb, 0, none⟩) :: .int .i64 m :: .pointer (some ⟨ib, 0, none⟩) :: .int .i64 v :: .func (.func 21) #[] #[.pointer (some ⟨gb, 0, none⟩), .pointer (some ⟨ib, 0, none⟩)] :: .pointer (some ⟨bb, 0, none⟩) :: .int .i64 i :: u16 :: u17 :: u18 :: u19 :: u20 :: u21 :: u22 :: u23 :: u24 :: u25 :: u26 :: u27 :: u28 :: u29 :: u30 :: u31 :: u32 :: u33 :: u34 :: u35 :: u36 :: u37 :: u38 :: u39 :: u40 :: u41 :: u42 :: u43 :: u44 :: u45 :: u46 :: u47 :: u48 :: u49 :: u50 :: u51 :: u52 :: u53 :: u54 :: u55 :: u56 :: u57 :: u58 :: u59 :: u60 :: u61 :: u62 :: u63 :: u64 :: u65 :: u66 :: u67 :: u68 :: u69 :: u70 :: u71 :: u72 :: u73 :: u74 :: u75 :: u76 :: u77 :: u78 :: u79 :: u80 :: u81 :: u82 :: u83 :: u84 :: u85 :: u86 :: u87 :: u88 :: u89 :: u90 :: u91 :: u92 :: u93 :: u94 :: u95 :: u96 :: u97 :: u98 :: u99 :: u100 :: u101 :: u102 :: u103 :: u104 :: u105 :: u106 :: []).toArray, []⟩ W := by
  have WC := Lib.hid (fun W => within_any what 0 3 W (by omega) (by omega) (by omega) hwh.1 hwh.2)
  have ws := within_bd what 0 3 (by omega)
  obtain ⟨s, hse⟩ : ∃ s, within what 0 3 = s := ⟨_, rfl⟩
  rw [hse] at WC ws
  have HB := Lib.hid hb
  have HG := Lib.hid hg
  have HX := Lib.hid hx
  have HI := Lib.hid hi
  have HO := Lib.hid ho
  have HM := Lib.hid hm
  have SG := Lib.hid hs
  have BX := Lib.hid hbx
  have BO := Lib.hid hbo
  have HBB := Lib.hid hbb
  have IA := Lib.hid hai
  have n1' := hs.right.lo
  have n7 := hs.seven
  have l14 : m ≤ 14 := by have := hs.few; omega
  have GD := Lib.hid (show Good n l from ⟨hs.right.ok, hs.right.simp⟩)
  clear hb hg hx hi ho hm hs hbx hbo hbb hse hwh hai
  unfold badSW
  conv => enter [2, 1]; whnf
  rcases (by omega : s = 0 ∨ s = 1 ∨ s = 2 ∨ s = 3) with rfl | rfl | rfl | rfl
  · go_wp2_with fail
    refine (WC.out W).mono ?_
    rintro e1 w1 ⟨rfl, rfl⟩
    go_wp2
    exact bad_19 w W gb bb n n i l _ _ _ _ _ _ _ _ _ _ _ _ _ _ _ _ _ _ _ _ _ _ _ _ _ _ _ _ _ _ _ _ _ _ _ _ _ _ _ _ _ _ _ _ _ _ _ _ _ _ _ _ _ _ _ _ _ _ _ _ _ _ _ _ _ _ _ _ _ _ _ _ _ _ _ _ _ _ _ _ _ _ _ _ _ _ _ _ _ _ _ _ _ _ _ _ _ _ _ _ _ _ _ _ _ _ _ HB.out (HG.out.on HB.out) HX.out (Row.of_own HO.out) SG.out.right BX.out (Row.of_own BO.out) (isBad_put (by have := HM.out; omega) n1' (by omega) GD.out (by have := HM.out; omega) (Or.inl rfl))
  · have a0 := HX.out.cell 0
    simp only [List.getElem?_toArray, List.getElem?_cons_zero] at a0
    have CP := Lib.hid (badput_any W gb ib m i n (v, n) lo lc l HX.out HI.out (Row.of_own HO.out) HM.out him (by have := HM.out; omega))
    go_wp2_with fail
    refine (WC.out W).mono ?_
    rintro e1 w1 ⟨rfl, rfl⟩
    go_wp2_with fail
    refine CP.out.mono ?_
    rintro e2 w2 ⟨⟨g2, k2, c2, rfl, ho2, hk2⟩, hb2⟩
    have b2 := HB.out.trans (hb2.mono HB.out.size)
    have bx2 := BX.out.on hb2
    obtain ⟨q1, q2, q3, q4⟩ := put_graph bx2 HBB.out b2 n (.slice (some ⟨g2, 0, none⟩) k2 c2)
    have c0 := bx2.cell 0
    have c1 := bx2.cell 1
    have f0 := bx2.fr 0
    have f1 := bx2.fr 1
    have xl := bx2.lt
    simp only [List.getElem?_toArray, List.getElem?_cons_zero, List.getElem?_cons_succ] at c0 c1
    have Q1 := Lib.hid q1
    have Q2 := Lib.hid q2
    have Q3 := Lib.hid (q3 gb _ _ (HX.out.on hb2) n1)
    have Q4 := Lib.hid (q4 _ _ _ (own_on HO.out hb2))
    have Q6 := Lib.hid (q4 _ _ _ ho2)
    clear b2 bx2 q1 q2 q3 q4 ho2 hb2 hk2 a0
    go_wp2
    exact bad_19 w _ gb bb n n i l _ _ _ _ _ _ _ _ _ _ _ _ _ _ _ _ _ _ _ _ _ _ _ _ _ _ _ _ _ _ _ _ _ _ _ _ _ _ _ _ _ _ _ _ _ _ _ _ _ _ _ _ _ _ _ _ _ _ _ _ _ _ _ _ _ _ _ _ _ _ _ _ _ _ _ _ _ _ _ _ _ _ _ _ _ _ _ _ _ _ _ _ _ _ _ _ _ _ _ _ _ _ _ _ _ _ _ Q2.out (HG.out.on Q2.out) Q3.out (Row.of_own Q4.out) SG.out.right Q1.out (Row.of_own Q6.out) (isBad_put (x := (v, n)) (by have := HM.out; omega) n1' (by omega) GD.out (by have := HM.out; omega) (Or.inr (Int.lt_irrefl n)))
  · rcases Nat.eq_zero_or_pos m with rfl | hm0
    · go_wp2_with fail
      refine (WC.out W).mono ?_
      rintro e1 w1 ⟨rfl, rfl⟩
      go_wp2_with fail
      refine (runs_any W (HG.out.on HB.out).eg).mono ?_
      rintro e2 w2 ⟨rfl, hb2⟩
      have B2 := Lib.hid (HB.out.trans (hb2.mono HB.out.size))
      clear hb2
      go_wp2
      go_ret
      exact ⟨rfl, B2.out⟩
    · have d0 : ((m : Int) == 0) = false := by simp; omega
      have a0 := HX.out.cell 0
      have a1 := HX.out.cell 1
      have c0 := BX.out.cell 0
      have c1 := BX.out.cell 1
      have f0 := BX.out.fr 0
      have f1 := BX.out.fr 1
      have xl := BX.out.lt
      simp only [List.getElem?_toArray, List.getElem?_cons_zero, List.getElem?_cons_succ] at a0 a1 c0 c1
      obtain ⟨q1, q2, q3, q4⟩ := put_graph BX.out HBB.out HB.out n (.slice lo m lc)
      have Q1 := Lib.hid q1
      have Q2 := Lib.hid q2
      have Q3 := Lib.hid (q3 gb _ _ HX.out n1)
      have Q4 := Lib.hid (q4 _ _ _ HO.out)
      clear q1 q2 q3 q4
      go_wp2_with fail
      refine (WC.out W).mono ?_
      rintro e1 w1 ⟨rfl, rfl⟩
      go_upto_region 14 with fail
      generalize (W.setCell ⟨bb, 0, none⟩ (.int .i64 n)).setCell ⟨bb, 1, none⟩ (.slice lo m lc) = V at *
      have wb := within_bd ai 0 ((m : Int) - 1) (by omega)
      obtain ⟨j, hj⟩ : ∃ j : Nat, within ai 0 ((m : Int) - 1) = j := ⟨(within ai 0 ((m : Int) - 1)).toNat, by omega⟩
      rw [hj] at wb
      have WI := Lib.hid (show ∀ w, Calls Tryd.prog 16 #[.int .i64 ai, .int .i64 0, .int .i64 ((m : Int) - 1)] w fun e w' => e = .returned (.int .i64 j) ∧ w = w' from fun w => by
        have h := within_any ai 0 ((m : Int) - 1) w (by omega) (by omega) (by omega) IA.out.1 IA.out.2
        rw [hj] at h
        exact h.mono fun _ _ ⟨h1, h2⟩ => ⟨h1, by rw [h2]⟩)
      obtain ⟨z, hz⟩ : ∃ z, l[j]? = some z := ⟨_, List.getElem?_eq_getElem (by have := HM.out; omega)⟩
      obtain ⟨p, ix, _, px⟩ := row_el okK (Row.of_own Q4.out) rfl HM.out.symm hz
      have HZ := Lib.hid hz
      clear a0 a1 c0 c1 f0 f1 xl d0 hj hz
      refine bad_r14 _ V gb m j ai z p lo lc _ _ _ _ _ _ _ _ _ _ _ _ _ _ _ _ _ _ _ _ _ _ _ _ _ _ _ _ _ _ _ _ _ _ _ _ _ _ _ _ _ _ _ _ _ _ _ _ _ _ _ _ _ _ _ _ _ _ _ _ _ _ _ _ _ _ _ _ _ _ _ _ _ _ _ _ _ _ _ _ _ _ _ _ _ _ _ _ _ _ _ _ _ _ _ _ _ _ _ _ _ _ _ _ (fun x hx => (Q3.out.on hx).cell 1) ix px ⟨hm0, by omega⟩ WI.out ?_
      intro V2 lb v17 v18 v19 v20 v21 v22 v23 v24 v25 v26 v27 v28 v29 v30 v31 v32 v33 v34 v35 v36 v37 v38 v39 v40 v41 v42 v43 v44 v45 v46 v47 v48 v49 v50 v51 v52 v53 v54 v55 v56 v57 v58 v59 v60 v61 v62 hlb hlbb hV2
      have X2 := Lib.hid (Q3.out.on hV2)
      have Y2 := Lib.hid (Q1.out.on hV2)
      have O2 := Lib.hid (own_on Q4.out hV2)
      have L2 := Lib.hid hlb
      have B2 := Lib.hid (Q2.out.trans (hV2.mono Q2.out.size))
      clear hlb hlbb hV2 px ix Q1 Q2 Q3 Q4
      obtain ⟨e, li, v1, v2, wof0, hc0⟩ := chain_ex V2 (z.2, z.1) (Row.of_own O2.out) (by have := HM.out; omega)
      obtain ⟨wof, hc, hf⟩ := chain_fin hc0 (fun w v => w.setCell ⟨bb, 1, none⟩ v)
      clear hc0
      have hcell : ∀ p s, p ≤ 3 → s ≤ 3 → (p ≤ s ∨ p = 3 ∧ s ≤ 2) → (wof p s).cell? ⟨gb, 1, none⟩ = some (.slice lo m lc) ∧ (wof p s).cell? ⟨lb, 1, none⟩ = some (.int .i64 z.2) ∧ (wof p s).cell? ⟨lb, 0, none⟩ = some (.int .i64 z.1) := fun p s h1 h2 h3 => by
        have hb := hc.bel p s h1 h2 h3
        exact ⟨(X2.out.on hb).cell 1, (L2.out.on hb).cell 1, (L2.out.on hb).cell 0⟩
      have h5 : ∀ p, p ≤ 2 → (Instr.storeAt 23 (.pointer (some ⟨bb, 1, none⟩)) (v2 p)).run Tryd.prog (wof p 3) = .ok () (wof p 4) := fun p hp => by
        have hb := Y2.out.on (hc.bel p 3 (by omega) (by omega) (by omega))
        have c1 := hb.cell 1
        have f1 := hb.fr 1
        obtain ⟨g, c, hv, _⟩ := hc.own p hp
        rw [hf p, hv]
        simp only [List.getElem?_toArray, List.getElem?_cons_zero, List.getElem?_cons_succ] at c1
        simp [go_sem, c1, f1]
      simp only [Exit.then]
      apply_assumption
      refine bad_rB _ V2 gb bb lb m (z.2, z.1) lo lc e li v1 v2 v2 wof _ _ _ _ _ _ _ _ _ _ _ _ _ _ _ _ _ _ _ _ _ _ _ _ _ _ _ _ _ _ _ _ _ _ _ _ _ _ _ _ _ _ _ _ _ _ _ _ _ _ _ _ _ _ _ _ _ _ _ _ _ _ _ _ _ _ _ _ _ _ _ _ _ _ _ _ _ _ _ _ _ _ _ _ _ _ _ _ _ _ _ _ _ _ _ _ _ _ _ _ _ _ _ _ hc.h30 hc.h1 hc.h2 hc.h3 hc.hL hc.e1 hc.e2 hc.e3 h5 hcell ?_
      intro p hp v63 v64 v65 v66 v67 v68 v69 v70 v71 v72 v73 v74
      obtain ⟨g2, c2, hv2, ho2⟩ := hc.own p hp
      have hb := hc.bel p 3 (by omega) (by omega) (by omega)
      have BF := Lib.hid (show Below w.heap.size w (wof p 4) by rw [hf]; exact (B2.out.trans (hb.mono B2.out.size)).setCell HBB.out _)
      have YF := Lib.hid (show Box (wof p 4) bb #[.int .i64 n, v2 p] 25 by rw [hf]; exact heap_setCell_same (wof p 3) bb 1 #[.int .i64 n, .slice lo m lc] 25 (v2 p) (Y2.out.on hb))
      have XF := Lib.hid (show Box (wof p 4) gb #[.int .i64 n, .slice lo m lc] 25 by rw [hf]; exact box_other (X2.out.on hb) n1 _)
      have OF := Lib.hid (show OwnK (wof p 4) B (.slice lo m lc) l by rw [hf]; exact own_set (own_on O2.out hb) (Y2.out.on hb) (by decide) _)
      have OG := Lib.hid (show OwnK (wof p 4) V2.heap.size (v2 p) (l ++ [(z.2, z.1)]) by rw [hf]; exact own_set ho2 (Y2.out.on hb) (by decide) _)
      have IB := Lib.hid (show IsBad n (l ++ [(z.2, z.1)]) (m : Int) by
        have h := isBad_twice (x := (z.2, z.1)) (by have := HM.out; omega) n1' (by omega) GD.out (List.mem_of_getElem? HZ.out)
        rw [← HM.out] at h
        exact h)
      simp only [Exit.inBlock, Exit.then]
      apply_assumption
      exact bad_19 w _ gb bb n n m l _ _ _ _ _ _ _ _ _ _ _ _ _ _ _ _ _ _ _ _ _ _ _ _ _ _ _ _ _ _ _ _ _ _ _ _ _ _ _ _ _ _ _ _ _ _ _ _ _ _ _ _ _ _ _ _ _ _ _ _ _ _ _ _ _ _ _ _ _ _ _ _ _ _ _ _ _ _ _ _ _ _ _ _ _ _ _ _ _ _ _ _ _ _ _ _ _ _ _ _ _ _ _ _ _ _ _ BF.out (HG.out.on BF.out) XF.out (Row.of_own OF.out) SG.out.right YF.out (Row.of_own OG.out) IB.out
  · have a0 := HX.out.cell 0
    have a1 := HX.out.cell 1
    have c0 := BX.out.cell 0
    have c1 := BX.out.cell 1
    have f0 := BX.out.fr 0
    have f1 := BX.out.fr 1
    have xl := BX.out.lt
    simp only [List.getElem?_toArray, List.getElem?_cons_zero, List.getElem?_cons_succ] at a0 a1 c0 c1
    obtain ⟨q1, q2, q3, q4⟩ := put_graph BX.out HBB.out HB.out n (.slice lo m lc)
    have Q1 := Lib.hid q1
    have Q2 := Lib.hid q2
    have Q3 := Lib.hid (q3 gb _ _ HX.out n1)
    have Q4 := Lib.hid (q4 _ _ _ HO.out)
    clear q1 q2 q3 q4
    go_wp2_with fail
    refine (WC.out W).mono ?_
    rintro e1 w1 ⟨rfl, rfl⟩
    go_upto_region 18 with fail
    generalize (W.setCell ⟨bb, 0, none⟩ (.int .i64 n)).setCell ⟨bb, 1, none⟩ (.slice lo m lc) = V at *
    clear a0 a1 c0 c1 f0 f1 xl
    have c0 := Q1.out.cell 0
    have f0 := Q1.out.fr 0
    have xl := Q1.out.lt
    simp only [List.getElem?_toArray, List.getElem?_cons_zero] at c0
    have hwn : IntKind.i64.wrap (n + 1) = n + 1 := IntWalk.i64_in _ (by omega)
    have YF := Lib.hid (show Box (V.setCell ⟨bb, 0, none⟩ (.int .i64 (n + 1))) bb #[.int .i64 (n + 1), .slice lo m lc] 25 from heap_setCell_same V bb 0 #[.int .i64 n, .slice lo m lc] 25 _ Q1.out)
    have XF := Lib.hid (show Box (V.setCell ⟨bb, 0, none⟩ (.int .i64 (n + 1))) gb #[.int .i64 n, .slice lo m lc] 25 from box_other Q3.out n1 _)
    have OF := Lib.hid (own_set (k := 0) Q4.out Q1.out (by decide) (.int .i64 (n + 1)))
    have BF := Lib.hid (show Below w.heap.size w (V.setCell ⟨bb, 0, none⟩ (.int .i64 (n + 1))) from Q2.out.setCell HBB.out _)
    go_wp2
    exact bad_19 w _ gb bb n (n + 1) (-1) l l _ _ _ _ _ _ _ _ _ _ _ _ _ _ _ _ _ _ _ _ _ _ _ _ _ _ _ _ _ _ _ _ _ _ _ _ _ _ _ _ _ _ _ _ _ _ _ _ _ _ _ _ _ _ _ _ _ _ _ _ _ _ _ _ _ _ _ _ _ _ _ _ _ _ _ _ _ _ _ _ _ _ _ _ _ _ _ _ _ _ _ _ _ _ _ _ _ _ _ _ _ _ _ _ _ _ BF.out (HG.out.on BF.out) XF.out (Row.of_own OF.out) SG.out.right YF.out (Row.of_own OF.out) (isBad_far n1' (by omega) GD.out)
end Go.Proofs.YtbnfndcbhnjnaaaDoor.Gr
