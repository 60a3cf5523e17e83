/-
  GraphBad: a row, one link, a row, put together in any order; what its closure tells. Conditions: as each theorem states them.
-/
import Derived.Test.YtbnfndcbhnjnaaaDoorGsBadR
import Derived.Test.YtbnfndcbhnjnaaaDoorGsChain
import Derived.Test.YtbnfndcbhnjnaaaDoorGrKeep
import Derived.Test.YtbnfndcbhnjnaaaDoorBl
namespace Go.Proofs.YtbnfndcbhnjnaaaDoor.Gr
open Go.RowKit Go.Proofs.YtbnfndcbhnjnaaaDoor Go.Proofs.YtbnfndcbhnjnaaaDoor.Rw

/-- One more link made at any time, and two appends. -/
structure Chain (V : World) (lo : Value) (x : Lk) (a : List Lk) (e li v1 v2 : Nat → Value) (wof : Nat → Nat → World) : Prop where
  h30 : wof 3 0 = V.drew
  h1 : ∀ p, (p = 0 ∨ p = 3) → (Instr.buildSlice 23 0 #[]).run Tryd.prog (wof p 0) = .ok (e p) (wof p 1)
  h2 : ∀ p, (p = 0 ∨ p = 1 ∨ p = 3) → (Builtin.append_ #[23, 23] 23 #[e p, lo]).run Tryd.prog (wof p 1) = .ok (v1 p) (wof p 2)
  h3 : ∀ p, p ≤ 2 → (Builtin.append_ #[23, 23] 23 #[v1 p, li p]).run Tryd.prog (wof p 2) = .ok (v2 p) (wof p 3)
  hL : ∀ s, s ≤ 2 → (Instr.buildSlice 23 1 #[(0, kv x)]).run Tryd.prog (wof 3 s) = .ok (li s) (wof s s)
  e1 : e 1 = e 3
  e2 : e 2 = e 3
  e3 : v1 2 = v1 3
  own : ∀ p, p ≤ 2 → ∃ g c, v2 p = .slice (some ⟨g, 0, none⟩) (a.length + 1) c ∧ OwnK (wof p 3) V.heap.size (v2 p) (a ++ [x])
  bel : ∀ p s, p ≤ 3 → s ≤ 3 → (p ≤ s ∨ p = 3 ∧ s ≤ 2) → Below V.heap.size V (wof p s)
theorem chain_ex (V : World) {lo : Value} {a : List Lk} (x : Lk) (hl : RowK V lo a) (la : a.length ≤ 100) : ∃ e li v1 v2 wof, Chain V lo x a e li v1 v2 wof := by
  obtain ⟨va, wa, g2, c2, w2, R2⟩ := runs2_a x hl la
  obtain ⟨h0, hx, hb0⟩ := lit_first V x
  obtain ⟨v0, w0, g0, c0, w20, R0⟩ := runs2_b h0 hx (by omega) hb0 hl la
  obtain ⟨h1, hx1, hb1⟩ := lit_second V x
  obtain ⟨vb, wb, g1, c1, w21, R1⟩ := runs2_b h1 hx1 (by omega) hb1 hl la
  refine ⟨fun | 0 => .slice (some ⟨V.heap.size + 1, 0, none⟩) 0 0 | _ => .slice (some ⟨V.heap.size, 0, none⟩) 0 0, fun | 0 => .slice (some ⟨V.heap.size, 0, none⟩) 1 1 | 1 => .slice (some ⟨V.heap.size + 1, 0, none⟩) 1 1 | _ => .slice (some ⟨wa.heap.size, 0, none⟩) 1 1,
    fun | 0 => v0 | 1 => vb | _ => va, fun | 0 => .slice (some ⟨g0, 0, none⟩) (a.length + 1) c0 | 1 => .slice (some ⟨g1, 0, none⟩) (a.length + 1) c1 | _ => .slice (some ⟨g2, 0, none⟩) (a.length + 1) c2,
    fun | 0 => (fun | 0 => V.drew.alloc (litK x) | 1 => (V.drew.alloc (litK x)).alloc (.cells #[] 22) | 2 => w0 | _ => w20)
        | 1 => (fun | 0 => V.drew | 1 => (V.drew.alloc (.cells #[] 22)).alloc (litK x) | 2 => wb | _ => w21)
        | 2 => (fun | 2 => wa.alloc (litK x) | _ => w2)
        | _ => (fun | 0 => V.drew | 1 => V.drew.alloc (.cells #[] 22) | _ => wa), ?_⟩
  refine ⟨rfl, ?_, ?_, ?_, ?_, rfl, rfl, rfl, ?_, ?_⟩
  · rintro p (rfl | rfl) <;> simp [go_sem]
  · rintro p (rfl | rfl | rfl)
    · exact R0.r1
    · exact R1.r1
    · exact R2.r1
  · intro p hp
    rcases (by omega : p = 0 ∨ p = 1 ∨ p = 2) with rfl | rfl | rfl
    · exact R0.r2
    · exact R1.r2
    · exact R2.r2
  · intro s hs
    rcases (by omega : s = 0 ∨ s = 1 ∨ s = 2) with rfl | rfl | rfl <;> simp [go_sem]
  · intro p hp
    rcases (by omega : p = 0 ∨ p = 1 ∨ p = 2) with rfl | rfl | rfl
    · exact ⟨g0, c0, rfl, R0.own⟩
    · exact ⟨g1, c1, rfl, R1.own⟩
    · exact ⟨g2, c2, rfl, R2.own⟩
  · intro p s hp hs hps
    have k0 : Below V.heap.size V V.drew := (Below.refl _ _).drew
    rcases (by omega : p = 0 ∨ p = 1 ∨ p = 2 ∨ p = 3) with rfl | rfl | rfl | rfl
    · rcases (by omega : s = 0 ∨ s = 1 ∨ s = 2 ∨ s = 3) with rfl | rfl | rfl | rfl
      · exact k0.alloc (Nat.le_refl _) _
      · exact hb0
      · exact R0.b1
      · exact R0.b2
    · rcases (by omega : s = 1 ∨ s = 2 ∨ s = 3) with rfl | rfl | rfl
      · exact hb1
      · exact R1.b1
      · exact R1.b2
    · rcases (by omega : s = 2 ∨ s = 3) with rfl | rfl
      · exact R2.b1.alloc R2.b1.size _
      · exact R2.b2
    · rcases (by omega : s = 0 ∨ s = 1 ∨ s = 2 ∨ s = 3) with rfl | rfl | rfl | rfl
      · exact k0
      · exact k0.alloc (Nat.le_refl _) _
      · exact R2.b1
      · exact R2.b1
/-- .. and a third. -/
structure Third (V : World) (hi : Value) (x : Lk) (a b : List Lk) (v2 v3 : Nat → Value) (wof : Nat → Nat → World) : Prop where
  h4 : ∀ p, p ≤ 2 → (Builtin.append_ #[23, 23] 23 #[v2 p, hi]).run Tryd.prog (wof p 3) = .ok (v3 p) (wof p 4)
  own : ∀ p, p ≤ 2 → ∃ g c, v3 p = .slice (some ⟨g, 0, none⟩) (a.length + 1 + b.length) c ∧ OwnK (wof p 4) V.heap.size (v3 p) (a ++ x :: b)
  bel : ∀ p s, p ≤ 3 → s ≤ 4 → (p ≤ s ∨ p = 3 ∧ s ≤ 2) → Below V.heap.size V (wof p s)
theorem app_more {V w : World} {v hi : Value} {x : Lk} {a b : List Lk} {g c : Nat} (_hv : v = .slice (some ⟨g, 0, none⟩) (a.length + 1) c) (ho : OwnK w V.heap.size v (a ++ [x])) (hbe : Below V.heap.size V w) (hh : RowK V hi b) (la : a.length ≤ 100) (lb : b.length ≤ 100) :
    ∃ v3 w3, (Builtin.append_ #[23, 23] 23 #[v, hi]).run Tryd.prog w = .ok v3 w3 ∧ (∃ g c, v3 = .slice (some ⟨g, 0, none⟩) (a.length + 1 + b.length) c) ∧ OwnK w3 V.heap.size v3 (a ++ x :: b) ∧ Below V.heap.size V w3 := by
  obtain ⟨g3, c3, w3, r3, o3, gr⟩ := app_lit V.heap.size ho (hh.on hbe) (by simp; omega) (by omega) hbe.size (by simp; omega)
  have b3 := hbe.grown gr hbe.size (fun j hj => (ho.lt j hj).1)
  have e : (a ++ [x] ++ b).length = a.length + 1 + b.length := by simp; omega
  rw [e] at r3 o3
  exact ⟨_, w3, r3, ⟨g3, c3, rfl⟩, by simpa using o3, b3⟩
theorem third_ex {V : World} {lo hi : Value} {x : Lk} {a b : List Lk} {e li v1 v2 : Nat → Value} {wof : Nat → Nat → World} (h : Chain V lo x a e li v1 v2 wof) (hh : RowK V hi b) (la : a.length ≤ 100) (lb : b.length ≤ 100) (fin : World → Value → World) :
    ∃ v3 wof', Chain V lo x a e li v1 v2 wof' ∧ Third V hi x a b v2 v3 wof' ∧ ∀ p, p ≤ 2 → wof' p 5 = fin (wof' p 4) (v3 p) := by
  have key : ∀ p, p ≤ 2 → ∃ v3 w3, (Builtin.append_ #[23, 23] 23 #[v2 p, hi]).run Tryd.prog (wof p 3) = .ok v3 w3 ∧ (∃ g c, v3 = .slice (some ⟨g, 0, none⟩) (a.length + 1 + b.length) c) ∧ OwnK w3 V.heap.size v3 (a ++ x :: b) ∧ Below V.heap.size V w3 := fun p hp => by
    obtain ⟨g, c, hv, ho⟩ := h.own p hp
    exact app_more hv ho (h.bel p 3 (by omega) (by omega) (by omega)) hh la lb
  obtain ⟨x0, y0, r0, ⟨g0, c0, s0⟩, o0, b0⟩ := key 0 (by omega)
  obtain ⟨x1, y1, r1, ⟨g1, c1, s1⟩, o1, b1⟩ := key 1 (by omega)
  obtain ⟨x2, y2, r2, ⟨g2, c2, s2⟩, o2, b2⟩ := key 2 (by omega)
  have three : ∀ (q : Nat → Prop), (q 0 ∧ q 1 ∧ q 2) → ∀ p, p ≤ 2 → q p := fun q hq p hp => by
    rcases (by omega : p = 0 ∨ p = 1 ∨ p = 2) with rfl | rfl | rfl
    · exact hq.1
    · exact hq.2.1
    · exact hq.2.2
  obtain ⟨v3, hv3⟩ : ∃ v3 : Nat → Value, v3 = fun | 0 => x0 | 1 => x1 | _ => x2 := ⟨_, rfl⟩
  obtain ⟨w3, hw3⟩ : ∃ w3 : Nat → World, w3 = fun | 0 => y0 | 1 => y1 | _ => y2 := ⟨_, rfl⟩
  obtain ⟨wof', hwof⟩ : ∃ wof' : Nat → Nat → World, wof' = fun p s => if s ≤ 3 then wof p s else if s = 4 then (if p ≤ 2 then w3 p else V) else fin (w3 p) (v3 p) := ⟨_, rfl⟩
  have lo3 : ∀ p s, s ≤ 3 → wof' p s = wof p s := fun p s hs => by rw [hwof]; simp [hs]
  have hi4 : ∀ p, p ≤ 2 → wof' p 4 = w3 p := fun p hp => by rw [hwof]; simp [hp]
  have hi5 : ∀ p, wof' p 5 = fin (w3 p) (v3 p) := fun p => by rw [hwof]; simp
  have b4 : ∀ p, p ≤ 2 → Below V.heap.size V (w3 p) := three _ ⟨by rw [hw3]; exact b0, by rw [hw3]; exact b1, by rw [hw3]; exact b2⟩
  refine ⟨v3, wof', ⟨?_, ?_, ?_, ?_, ?_, h.e1, h.e2, h.e3, ?_, ?_⟩, ⟨?_, ?_, ?_⟩, fun p hp => by rw [hi5, hi4 p hp]⟩
  · rw [lo3 _ _ (by omega)]; exact h.h30
  · intro p hp; rw [lo3 _ _ (by omega), lo3 _ _ (by omega)]; exact h.h1 p hp
  · intro p hp; rw [lo3 _ _ (by omega), lo3 _ _ (by omega)]; exact h.h2 p hp
  · intro p hp; rw [lo3 _ _ (by omega), lo3 _ _ (by omega)]; exact h.h3 p hp
  · intro s hs; rw [lo3 _ _ (by omega), lo3 _ _ (by omega)]; exact h.hL s hs
  · intro p hp; rw [lo3 _ _ (by omega)]; exact h.own p hp
  · intro p s hp hs hps; rw [lo3 _ _ (by omega)]; exact h.bel p s hp hs hps
  · intro p hp
    rw [lo3 _ _ (by omega), hi4 p hp]
    exact three (fun p => (Builtin.append_ #[23, 23] 23 #[v2 p, hi]).run Tryd.prog (wof p 3) = .ok (v3 p) (w3 p)) ⟨by rw [hw3, hv3]; exact r0, by rw [hw3, hv3]; exact r1, by rw [hw3, hv3]; exact r2⟩ p hp
  · intro p hp
    rw [hi4 p hp]
    exact three (fun p => ∃ g c, v3 p = .slice (some ⟨g, 0, none⟩) (a.length + 1 + b.length) c ∧ OwnK (w3 p) V.heap.size (v3 p) (a ++ x :: b)) ⟨by rw [hw3, hv3]; exact ⟨g0, c0, s0, o0⟩, by rw [hw3, hv3]; exact ⟨g1, c1, s1, o1⟩, by rw [hw3, hv3]; exact ⟨g2, c2, s2, o2⟩⟩ p hp
  · intro p s hp hs hps
    by_cases h3 : s ≤ 3
    · rw [lo3 _ _ h3]; exact h.bel p s hp h3 hps
    · obtain rfl : s = 4 := by omega
      by_cases h2 : p ≤ 2
      · rw [hi4 p h2]; exact b4 p h2
      · rw [hwof]
        simp only [show ¬ (4 : Nat) ≤ 3 by omega, if_false, if_true, h2]
        exact Below.refl _ _
set_option maxRecDepth 100000 in
set_option maxHeartbeats 8000000 in
theorem badput_any (U : World) (gb ib m i : Nat) (n : Int) (x : Lk) (vo : Option Addr) (vc : Nat) (l : List Lk) (hg : Box U gb #[.int .i64 n, .slice vo m vc] 25) (hi : Box U ib #[.int .i64 i] 3) (hl : RowK U (.slice vo m vc) l) (hm : m = l.length) (him : i ≤ m) (h100 : l.length ≤ 100) :
    Calls Tryd.prog 21 #[kv x, .pointer (some ⟨gb, 0, none⟩), .pointer (some ⟨ib, 0, none⟩)] U fun e w' => (∃ g k c, e = .returned (gv n (.slice (some ⟨g, 0, none⟩) k c)) ∧ OwnK w' U.heap.size (.slice (some ⟨g, 0, none⟩) k c) (l.take i ++ x :: l.drop i) ∧ k = l.length + 1) ∧ Below U.heap.size U w' := by
  have L := Lib.hid hl
  have GB := Lib.hid hg
  have IB := Lib.hid hi
  have HM := Lib.hid hm
  have gl := hg.lt
  have il := hi.lt
  obtain ⟨lo1, s1, hlo⟩ := row_lo okK hl i (by omega)
  obtain ⟨hi1, s2, hhi⟩ := row_hi okK hl i (by omega)
  have S1 := Lib.hid s1
  have S2 := Lib.hid s2
  have HLO := Lib.hid hlo
  have HHI := Lib.hid hhi
  have a0 := hg.cell 0
  have a1 := hg.cell 1
  simp only [List.getElem?_toArray, List.getElem?_cons_zero, List.getElem?_cons_succ] at a0 a1
  clear hg hi hl hm s1 s2 hlo hhi
  go_enter Tryd.func21, Tryd.ntmps21
  go_upto_region 2 with fail
  have BW := Lib.hid ((((Below.refl U.heap.size U).alloc (Nat.le_refl _) (.cells #[.int .i64 x.1, .int .i64 x.2] 22)).alloc (by simp) (.cells #[.int .i64 0, .slice none 0 0] 25)).alloc (by simp; omega) (.cells #[.int .i64 n, .slice vo m vc] 25))
  have X1 := Lib.hid ((box_new U #[.int .i64 x.1, .int .i64 x.2] 22).more (.cells #[.int .i64 0, .slice none 0 0] 25)  |>.more (.cells #[.int .i64 n, .slice vo m vc] 25))
  have s1' : (U.alloc (.cells #[.int .i64 x.1, .int .i64 x.2] 22)).heap.size = U.heap.size + 1 := by simp
  have s2' : ((U.alloc (.cells #[.int .i64 x.1, .int .i64 x.2] 22)).alloc (.cells #[.int .i64 0, .slice none 0 0] 25)).heap.size = U.heap.size + 1 + 1 := by simp
  have X2 := (box_new (U.alloc (.cells #[.int .i64 x.1, .int .i64 x.2] 22)) #[.int .i64 0, .slice none 0 0] 25).more (.cells #[.int .i64 n, .slice vo m vc] 25)
  rw [s1'] at X2
  have X3 := box_new ((U.alloc (.cells #[.int .i64 x.1, .int .i64 x.2] 22)).alloc (.cells #[.int .i64 0, .slice none 0 0] 25)) #[.int .i64 n, .slice vo m vc] 25
  rw [s2'] at X3
  have Y2 := Lib.hid X2
  have Y3 := Lib.hid X3
  clear s1' s2' X2 X3 a0 a1
  generalize ((U.alloc (.cells #[.int .i64 x.1, .int .i64 x.2] 22)).alloc (.cells #[.int .i64 0, .slice none 0 0] 25)).alloc (.cells #[.int .i64 n, .slice vo m vc] 25) = V at *
  obtain ⟨e, li, v1, v2, wof0, hc0⟩ := chain_ex V x (HLO.out.on BW.out) (by simp; omega)
  obtain ⟨v3, wof, hc, ht, hf⟩ := third_ex hc0 (HHI.out.on BW.out) (by simp; omega) (by simp; omega) (fun w v => w.setCell ⟨U.heap.size + 1 + 1, 1, none⟩ v)
  clear hc0
  have XO := Lib.hid (fun w (hb : Below V.heap.size V w) => Y3.out.on hb)
  have hcell : ∀ p s, p ≤ 3 → s ≤ 4 → (p ≤ s ∨ p = 3 ∧ s ≤ 2) → (wof p s).cell? ⟨gb, 1, none⟩ = some (.slice vo m vc) ∧ (wof p s).cell? ⟨ib, 0, none⟩ = some (.int .i64 i) ∧ (wof p s).cell? ⟨U.heap.size, 0, none⟩ = some (.int .i64 x.1) ∧ (wof p s).cell? ⟨U.heap.size, 1, none⟩ = some (.int .i64 x.2) := fun p s h1 h2 h3 => by
    have hb := ht.bel p s h1 h2 h3
    exact ⟨((GB.out.on BW.out).on hb).cell 1, ((IB.out.on BW.out).on hb).cell 0, (X1.out.on hb).cell 0, (X1.out.on hb).cell 1⟩
  have h5 : ∀ p, p ≤ 2 → (Instr.storeAt 23 (.pointer (some ⟨U.heap.size + 1 + 1, 1, none⟩)) (v3 p)).run Tryd.prog (wof p 4) = .ok () (wof p 5) := fun p hp => by
    have hb := Y3.out.on (ht.bel p 4 (by omega) (by omega) (by omega))
    have c1 := hb.cell 1
    have f1 := hb.fr 1
    obtain ⟨g, c, hv, _⟩ := ht.own p hp
    rw [hf p hp, hv]
    simp only [List.getElem?_toArray, List.getElem?_cons_zero, List.getElem?_cons_succ] at c1
    simp [go_sem, c1, f1]
  refine bad_rA _ V gb ib U.heap.size (U.heap.size + 1 + 1) m i x vo vc lo1 hi1 e li v1 v2 v3 wof _ _ _ _ _ _ _ _ _ _ _ _ _ _ _ _ _ _ _ hc.h30 hc.h1 hc.h2 hc.h3 hc.hL hc.e1 hc.e2 hc.e3 ht.h4 h5 S1.out S2.out hcell ?_
  intro p hp v7 v8 v9 v10 v11 v12 v13 v14 v15 v16 v17 v18 v19 v20 v21
  obtain ⟨g, c, hv, ho⟩ := ht.own p hp
  have hb := ht.bel p 4 (by omega) (by omega) (by omega)
  rw [hf p hp, hv]
  rw [hv] at ho
  clear hcell h5 hf hc ht hv
  have hlen : (l.take i).length + 1 + (l.drop i).length = l.length + 1 := by have := HM.out; simp; omega
  rw [hlen] at ho ⊢
  obtain ⟨k, hk⟩ : ∃ k, k = l.length + 1 := ⟨_, rfl⟩
  rw [← hk] at ho ⊢
  have HK := Lib.hid hk
  have HO := Lib.hid ho
  have HB := Lib.hid hb
  clear hlen hk ho hb
  generalize wof p 4 = w4 at *
  have B3 := Lib.hid (Y3.out.on HB.out)
  have B2 := Lib.hid (Y2.out.on HB.out)
  have hs := HB.out.size
  have HZ := Lib.hid (show Box (w4.setCell ⟨U.heap.size + 1 + 1, 1, none⟩ (.slice (some ⟨g, 0, none⟩) k c)) (U.heap.size + 1 + 1) #[.int .i64 n, .slice (some ⟨g, 0, none⟩) k c] 25 from heap_setCell_same w4 (U.heap.size + 1 + 1) 1 #[.int .i64 n, .slice vo m vc] 25 _ B3.out)
  have HR := Lib.hid (show Box (w4.setCell ⟨U.heap.size + 1 + 1, 1, none⟩ (.slice (some ⟨g, 0, none⟩) k c)) (U.heap.size + 1) #[.int .i64 0, .slice none 0 0] 25 from by
    have h := B2.out
    unfold Box at h ⊢
    rw [RowKit.Below.heap_setCell _ _ _ _ (show U.heap.size + 1 ≠ U.heap.size + 1 + 1 by omega)]
    exact h)
  have HO5 := Lib.hid (ownsRow_setCell_other (a := ⟨U.heap.size + 1 + 1, 1, none⟩) HO.out (own_ne HO.out B3.out (by decide)) (.slice (some ⟨g, 0, none⟩) k c))
  have HB5 := Lib.hid (show Below U.heap.size U (w4.setCell ⟨U.heap.size + 1 + 1, 1, none⟩ (.slice (some ⟨g, 0, none⟩) k c)) from (BW.out.trans (HB.out.mono BW.out.size)).setCell (show U.heap.size ≤ U.heap.size + 1 + 1 by omega) _)
  have HV := Lib.hid BW.out.size
  clear HB HO B3 B2 hs Y2 Y3 X1
  generalize w4.setCell ⟨U.heap.size + 1 + 1, 1, none⟩ (.slice (some ⟨g, 0, none⟩) k c) = w5 at *
  have a0 := HZ.out.cell 0
  have a1 := HZ.out.cell 1
  have b0 := HR.out.cell 0
  have b1 := HR.out.cell 1
  have f0 := HR.out.fr 0
  have f1 := HR.out.fr 1
  have r0 := HR.out.lt
  simp only [List.getElem?_toArray, List.getElem?_cons_zero, List.getElem?_cons_succ] at a0 a1 b0 b1
  apply_assumption
  go_wp2_with fail
  have SB2 := stored (n := n) (x := .slice (some ⟨g, 0, none⟩) k c) HR.out
  have z0 := SB2.cell 0
  have z1 := SB2.cell 1
  simp only [List.getElem?_toArray, List.getElem?_cons_zero, List.getElem?_cons_succ] at z0 z1
  have ne := own_ne HO5.out HR.out (by decide)
  exact bodyPost_ret (v := gv n (.slice (some ⟨g, 0, none⟩) k c)) (by simp [results, Tryd.results21, go_sem, z0, z1]) rfl ⟨⟨g, k, c, rfl, own_less HV.out (ownsRow_setCell_other (ownsRow_setCell_other HO5.out ne _) ne _), HK.out⟩, (HB5.out.setCell (by simp) _).setCell (by simp) _⟩
end Go.Proofs.YtbnfndcbhnjnaaaDoor.Gr
